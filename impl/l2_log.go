package impl

import "bytes"

const (
	MaxRecord = 2000
	MaxLog    = 40000
)

type Log struct {
	Records [][]byte
	Good    int
}

const (
	crcPolynomial = uint32(0xEDB88320)
	crcStart      = ^uint32(0)
)

// frameHead is how many bytes of a frame stand ahead of its record.
const frameHead = 6

func Crc(data []byte) uint32 {
	return ^crcOver(crcStart, data)
}

// crcOver takes the sum so far, so that the sum of a frame needs no copy of
// its two parts in one piece.
func crcOver(c uint32, data []byte) uint32 {
	for _, b := range data {
		c ^= uint32(b)
		for range 8 {
			low := c & 1
			c >>= 1
			if low == 1 {
				c ^= crcPolynomial
			}
		}
	}
	return c
}

func frameSum(length, record []byte) uint32 {
	return ^crcOver(crcOver(crcStart, length), record)
}

func Frame(records [][]byte) []byte {
	var log []byte
	for _, record := range records {
		if len(record) < 1 || len(record) > MaxRecord {
			return nil
		}
		if len(log)+frameHead+len(record) > MaxLog {
			return nil
		}
		log = appendFrame(log, record)
	}
	return log
}

func appendFrame(log, record []byte) []byte {
	n := uint16(len(record))
	length := []byte{byte(n >> 8), byte(n)}
	sum := frameSum(length, record)
	log = append(log, length...)
	log = append(log, byte(sum>>24), byte(sum>>16), byte(sum>>8), byte(sum))
	return append(log, record...)
}

func Unframe(data []byte) Log {
	var log Log
	if len(data) > MaxLog {
		return log
	}
frames:
	for len(data)-log.Good >= frameHead {
		head, rest := data[log.Good:log.Good+frameHead], data[log.Good+frameHead:]
		length := int(uint16(head[0])<<8 | uint16(head[1]))
		switch {
		case length < 1, length > MaxRecord, length > len(rest):
			break frames
		case frameSum(head[:2], rest[:length]) != readSum(head[2:]):
			break frames
		}
		log.Records = append(log.Records, bytes.Clone(rest[:length]))
		log.Good += frameHead + length
	}
	return log
}

func readSum(b []byte) uint32 {
	return uint32(b[0])<<24 | uint32(b[1])<<16 | uint32(b[2])<<8 | uint32(b[3])
}
