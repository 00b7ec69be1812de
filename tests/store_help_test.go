package tests

import (
	"fmt"
	"strings"
	"testing"

	"loop.example/s02349/impl"
)

func delivery(body string, stamp int64, flags uint32) impl.Req {
	return impl.Req{Kind: impl.ReqDeliver, Body: []byte(body), Stamp: stamp, Flags: flags}
}

func flagging(uid, flags uint32) impl.Req {
	return impl.Req{Kind: impl.ReqFlags, Uid: uid, Flags: flags}
}

func expunging(uids ...uint32) impl.Req {
	return impl.Req{Kind: impl.ReqExpunge, Uids: uids}
}

func moveStep() impl.Req { return impl.Req{Kind: impl.ReqMove} }

func logOf(records ...string) string {
	var list [][]byte
	for _, r := range records {
		list = append(list, []byte(r))
	}
	return string(framedAll(list))
}

// diskOf has files, each a name and its bytes, all safe, and room for more.
func diskOf(pairs ...string) impl.Disk {
	d := impl.Disk{Quota: impl.MaxQuota}
	for i := 0; i < len(pairs); i += 2 {
		d = impl.DiskDo(d, []impl.Op{create(pairs[i]), put(pairs[i], pairs[i+1]), syncing(pairs[i]), dir()}).Disk
	}
	return d
}

func mboxDisk(text string, records ...string) impl.Disk {
	return diskOf("index", logOf(records...), "mbox.0", text)
}

func maildirDisk(records []string, cards ...string) impl.Disk {
	return diskOf(append([]string{"uidlist", logOf(records...)}, cards...)...)
}

// formatted is an empty mailbox of validity 5.
func formatted(t *testing.T, kind int) impl.Disk {
	t.Helper()
	d := impl.Format(kind, 5, impl.MaxQuota)
	if len(d.Names) == 0 {
		t.Fatal("no mailbox of kind", kind)
	}
	return d
}

// carried does requests that are not to be refused.
func carried(t *testing.T, d impl.Disk, reqs ...impl.Req) impl.Disk {
	t.Helper()
	for i, r := range reqs {
		got := impl.Apply(d, r)
		if got.Code != impl.StoreOK || !impl.DiskValid(got.Disk) {
			t.Fatalf("request %d, %s: code %d", i, tellReq(r), got.Code)
		}
		d = got.Disk
	}
	return d
}

func tellReq(r impl.Req) string {
	return fmt.Sprintf("kind %d body %.40q (%d bytes) stamp %d flags %d uid %d uids %d", r.Kind, r.Body, len(r.Body), r.Stamp, r.Flags, r.Uid, r.Uids)
}

// tellMails leaves out the kind and the cursor, which are the form's.
func tellMails(v impl.View) string {
	var b strings.Builder
	fmt.Fprintf(&b, "code %d validity %d next %d\n", v.Code, v.Validity, v.Next)
	for _, m := range v.Mails {
		fmt.Fprintf(&b, "uid %d stamp %d flags %d body %q\n", m.Uid, m.Stamp, m.Flags, m.Body)
	}
	return b.String()
}

func tellView(v impl.View) string {
	return fmt.Sprintf("kind %d cursor %d %s", v.Kind, v.Cursor, tellMails(v))
}

func tellOps(ops []impl.Op) string {
	var b strings.Builder
	for _, op := range ops {
		fmt.Fprintf(&b, "%s %q %q %q\n", strings.Fields("none create append sync rename remove dir")[op.Kind], op.Name, op.To, op.Data)
	}
	return b.String()
}

func wantCode(t *testing.T, d impl.Disk, code int) {
	t.Helper()
	if got := impl.Look(d); tellView(got) != tellView(impl.View{Code: code}) {
		t.Errorf("want code %d and nothing else:\n%.300s", code, tellView(got))
	}
}

func wantView(t *testing.T, d impl.Disk, want impl.View) {
	t.Helper()
	if got := impl.Look(d); tellView(got) != tellView(want) {
		t.Errorf("%.2000s\nwant\n%.2000s", tellView(got), tellView(want))
	}
}

// wantOps asks for the very operations of a request, none other.
func wantOps(t *testing.T, d impl.Disk, r impl.Req, uid uint32, ops ...impl.Op) {
	t.Helper()
	got := impl.PlanOf(d, r)
	if got.Code != impl.StoreOK || got.Uid != uid || tellOps(got.Ops) != tellOps(ops) {
		t.Errorf("%s: code %d uid %d\n%.3000swant uid %d\n%.3000s", tellReq(r), got.Code, got.Uid, tellOps(got.Ops), uid, tellOps(ops))
	}
}

// wantRefused asks that a request changes nothing and tells nothing but why.
func wantRefused(t *testing.T, d impl.Disk, r impl.Req, code int) {
	t.Helper()
	plan := impl.PlanOf(d, r)
	if plan.Code != code || plan.Uid != 0 || len(plan.Ops) != 0 {
		t.Errorf("%s: code %d uid %d and %d operations, want code %d", tellReq(r), plan.Code, plan.Uid, len(plan.Ops), code)
	}
	after := d
	if !modelValid(d) {
		after = impl.Disk{}
	}
	got := impl.Apply(d, r)
	if got.Code != code || got.Uid != 0 || tell(got.Disk) != tell(after) {
		t.Errorf("%s: code %d uid %d, want code %d and the disk as it was\n%.2000s", tellReq(r), got.Code, got.Uid, code, tell(got.Disk))
	}
}

// fileOp are the operations by which a file is made.
func fileOp(name, data string) []impl.Op {
	return []impl.Op{create(name), put(name, data), syncing(name)}
}
