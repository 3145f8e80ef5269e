/- The contract of show.isWhole on a node whose kids are as the table of layer 2 has them: more kinds. -/
import Derived.Test.YtbfgdpcgdmabpaaGreatDoorY21
namespace Go.Proofs.YtbfgdpcgdmabpaaGreatDoor
open Go.RowKit
set_option maxRecDepth 100000
set_option maxHeartbeats 4000000
theorem isw_6 {w:World} {s:ByteArray} {nm:Int} {p:Nat} {ks:List T} {S:Nat→Prop} {kv:Value} (hk:KAt 25 w ks S kv) (h:Fit 6 ks) (hz:ks.length≤1000000) :
  Calls Tryz.prog 45 #[.agg #[.int .i64 6,.string s,.int .i64 nm,.int .i64 p,kv]] w fun e w'=>e=.returned (.bool true)∧Below w.heap.size w w':=by
 have HF:=zh (zZl h hz)
 exact zxb
end Go.Proofs.YtbfgdpcgdmabpaaGreatDoor
