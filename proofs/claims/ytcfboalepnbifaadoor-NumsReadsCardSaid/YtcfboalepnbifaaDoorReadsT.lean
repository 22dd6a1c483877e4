/- The law NumsReads, walked. -/
import Derived.Test.YtcfboalepnbifaaDoorReadsA
import Derived.Test.YtcfboalepnbifaaDoorReadsB
import Derived.Test.YtcfboalepnbifaaDoorReadsC
namespace Go.Proofs.YtcfboalepnbifaaDoor
open Go Go.RowKit

theorem numsReads_true (cs : List CallN) (v : Value) (s : ByteArray) (w : World) (hv : IsCalls w v cs) (hm : cs.length ≤ maxLen) (hg : ErrType w) :
    Calls Tryd.prog 3 #[.string s, v] w fun e w' => e = .returned (.bool true) ∧ Ext w w' :=
  reads_split.2.2.2 (Lib.hid reads_bad) (Lib.hid reads_left) (Lib.hid reads_done) cs v s w hv hm hg
end Go.Proofs.YtcfboalepnbifaaDoor
