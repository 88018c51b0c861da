/- Layer 8: what the document fixes of it; Link of any list. Condition: the tables of package ins read as they should. -/
import Derived.Test.YtjngkifoaljmaaaDoorPlaI
import Derived.Test.YtjngkifoaljmaaaDoorPlaN
namespace Go.Proofs.YtjngkifoaljmaaaDoor
set_option maxRecDepth 100000
open Go.RowKit
set_option linter.unusedVariables false
theorem link_any (l : List ObjD) (hW : ∀ d ∈ l, ObjW d) (A : Option Addr) (n c lo hi : Nat) (hn : l.length = n) (hmx : n ≤ 1000000) (t d : Int) (ht : IsU t) (hd : IsU d) (w : World) (hT : Tabs w) (hA : ObjsAt w lo hi l A) (hh : hi ≤ w.heap.size) :
    Calls Tryd.prog 12 #[.slice A n c, .int .u64 t, .int .u64 d] w (LinkP l t d n w) :=
  link_of l hW A n c lo hi hn hmx t d ht hd w hT hA hh (fun As cs base W hck hT' hA' hh' hS => all_any l hW hck A n c lo hi hn t d _ rfl As cs base W hT' hA' hh' hS)
theorem awake8_yes (w : World) (hT : Tabs w) : Calls Tryd.prog 7 #[] w fun e w' => e = .returned (.bool true) ∧ Below w.heap.size w w' :=
  awake8_of w hT (fun A c lo hi W hT' hA' hh' => link_any [wkO, wkO] wk_ws A 2 c lo hi rfl (by omega) 4096 77824 ⟨by omega, by omega⟩ ⟨by omega, by omega⟩ W hT' hA' hh')
end Go.Proofs.YtjngkifoaljmaaaDoor
