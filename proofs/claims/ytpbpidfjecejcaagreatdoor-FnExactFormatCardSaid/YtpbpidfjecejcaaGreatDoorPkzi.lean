import Derived.Test.YtpbpidfjecejcaaGreatDoorPkzd
import Derived.Test.YtpbpidfjecejcaaGreatDoorPkze
import Derived.Test.YtpbpidfjecejcaaGreatDoorPkzf
import Derived.Test.YtpbpidfjecejcaaGreatDoorPkzg
import Derived.Test.YtpbpidfjecejcaaGreatDoorPkzh
import Derived.Test.YtpbpidfjecejcaaGreatDoorPky
import Derived.Test.YtpbpidfjecejcaaGreatDoorPkz
import Derived.Test.YtpbpidfjecejcaaGreatDoorPku
namespace Go.Proofs.YtpbpidfjecejcaaGreatDoor
open Go.RowKit
theorem one_law : OneLaw := by
  intro base v1 v2 v3 v4 D kd nm tt ad data cd w hbase hW hs1 hs2 hdl hrow hd
  by_cases hbad : 1 ≤ kd ∧ kd ≤ 5 ∧ okName nm = true
  · obtain ⟨h1, h5, hok⟩ := hbad
    rcases (show kd = 1 ∨ kd = 2 ∨ kd = 3 ∨ kd = 4 ∨ kd = 5 by omega) with rfl | rfl | rfl | rfl | rfl
    · exact l1One_new base v1 v2 v3 v4 D nm tt ad data cd w hbase hW hs1 hs2 hdl hrow hd hok
    · by_cases hsp : D.quota < (usedOf D.nodes D.names : Int) + (data.length : Int)
      · exact l1One_app1 base v1 v2 v3 v4 D nm tt ad data cd w hbase hW hs1 hs2 hdl hrow hd hok hsp
      · by_cases hf : ∃ n, nodeIn D.names nm = some n ∧ (40000 < (ndAt D n).1.length + data.length ∨ 200000 < sumN D.nodes + data.length)
        · obtain ⟨n, hn, hf⟩ := hf
          refine l1One_app2 base v1 v2 v3 v4 D nm tt ad data cd w hbase hW hs1 hs2 hdl hrow hd hok hsp (fun n' hn' => ?_)
          obtain rfl : n = n' := by rw [hn] at hn'; exact Option.some.inj hn'
          exact hf
        · exact l1One_app3 base v1 v2 v3 v4 D nm tt ad data cd w hbase hW hs1 hs2 hdl hrow hd hok hsp (fun n hn h => hf ⟨n, hn, h⟩)
    · exact l1One_sync base v1 v2 v3 v4 D nm tt ad data cd w hbase hW hs1 hs2 hdl hrow hd hok
    · exact l1One_ren base v1 v2 v3 v4 D nm tt ad data cd w hbase hW hs1 hs2 hdl hrow hd hok
    · exact l1One_rem base v1 v2 v3 v4 D nm tt ad data cd w hbase hW hs1 hs2 hdl hrow hd hok
  · exact l1One_bad base v1 v2 v3 v4 D kd nm tt ad data cd w hbase hW hs1 hs2 hdl hrow hd hbad
end Go.Proofs.YtpbpidfjecejcaaGreatDoor
