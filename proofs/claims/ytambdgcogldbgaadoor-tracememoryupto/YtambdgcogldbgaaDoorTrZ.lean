/-
  the document's history (culvertref24): Text
-/
import Derived.Test.YtambdgcogldbgaaDoorTrU
namespace Go.Proofs.YtambdgcogldbgaaDoor
open Go.RowKit Go.Maps

variable {w w' W w1 w2 : World} {own own' : Nat → Nat} {v : Value} {U : Ds} {I : Nat → Prop} {k : Int} {d : Dr} {T : Nat} {ns : List Int} {sl : Value} {rb : Nat}
theorem row_cells {cs : List Value} (C1 : Aside (Cells w1 rb 45 cs)) (hk : Aside (Keeps Nowhere w1 w)) : ∀ i, w.cell? ⟨rb, i, none⟩ = cs[i]? := fun i => (C1.it.later hk.it (fun x => x)).cell i
theorem row_cells3 {dk : Int} {uq : Option Addr} {ul uc rd : Nat} {c e : Bool} (C1 : Aside (Cells w1 rb 45 [.int .i64 dk, .slice uq ul uc, .int .i64 rd, .bool c, .bool e])) (hk : Aside (Keeps Nowhere w1 w)) : w.cell? ⟨rb, 0, none⟩ = some (.int .i64 dk) ∧ w.cell? ⟨rb, 1, none⟩ = some (.slice uq ul uc) ∧ w.cell? ⟨rb, 2, none⟩ = some (.int .i64 rd) := ⟨row_cells C1 hk 0, row_cells C1 hk 1, row_cells C1 hk 2⟩
end Go.Proofs.YtambdgcogldbgaaDoor
