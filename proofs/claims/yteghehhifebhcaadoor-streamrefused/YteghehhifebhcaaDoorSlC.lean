/-
  layer 10's laws: the document's New; Begin.
-/
import Derived.Test.YteghehhifebhcaaDoorSlB
namespace Go.Proofs.YteghehhifebhcaaDoor
open Go.RowKit

section
variable {own own' : Nat → Nat} {i : Nat} {w w' w0 : World} {p : Nat} {A : Nat → Addr} {d : Dm} {I : Nat → Prop}
/-- the document's stream as a value -/
def refL (d : Dm) (sv uv : Value) : List Value := [.int .u32 d.id, .int .i64 d.win, .int .i64 d.stage, .int .i64 d.frame, .bool d.mine, .bool d.acc, sv, .bool d.closing, .bool d.last, .int .i64 d.credit, uv, .int .i64 d.left, .int .i64 d.owed, .bool d.heard, .bool d.told, .bool d.drop, .bool d.cut]
def nilS : Value := .slice none 0 0
theorem refNew_ok (id : Int) (win stage : Nat) (frame : Int) (c3 c4 c5 c6 c7 : Int) (mine : Bool) (h0 : ¬ id = 0) (h1 : 1 ≤ win) (h2 : win ≤ 2147483647) (h3 : 1 ≤ stage) (h4 : stage ≤ 1048576) (h5 : 1 ≤ frame) (h6 : frame ≤ 65536) (w : World) :
    Calls Tryd.prog 52 #[.int .u32 id, .agg #[.int .i64 win, .int .i64 stage, .int .i64 frame, .int .i64 c3, .int .i64 c4, .int .i64 c5, .int .i64 c6, .int .i64 c7], .bool mine] w fun e w' => e = .returned (.tuple #[.agg (refL (Dm.new id win stage frame mine) nilS nilS).toArray, .int .i64 0]) ∧ Aside (Keeps Nowhere w w') := by
  have a1 : ¬ (win : Int) < 1 := by omega
  have a2 : ¬ 2147483647 < (win : Int) := by omega
  have a3 : ¬ (stage : Int) < 1 := by omega
  have a4 : ¬ 1048576 < (stage : Int) := by omega
  have a5 : ¬ frame < 1 := by omega
  have a6 : ¬ 65536 < frame := by omega
  clear h1 h2 h3 h4 h5 h6
  go_enter Tryd.func52, Tryd.ntmps52
  go_wp2
  go_returns
  exact ⟨rfl, ⟨Keeps.ofBelow (by go_grown)⟩⟩
/-- the pair that Begin makes -/
def refZ : List Value := [.int .u32 0, .int .i64 0, .int .i64 0, .int .i64 0, .bool false, .bool false, .slice none 0 0, .bool false, .bool false, .int .i64 0, .slice none 0 0, .int .i64 0, .int .i64 0, .bool false, .bool false, .bool false, .bool false]
def pairL (p0 p1 : Value) (r0 r1 : List Value) (n0 n1 : Bool) : List Value := p0 :: p1 :: (r0 ++ (r1 ++ [.bool n0, .bool n1]))
def sd0 : Dm := Dm.new 1 4 6 3 true
def sd1 : Dm := Dm.new 2 4 6 3 false
def bgL : Nat → Nat → Nat → List Value
  | 0, _, _ => pairL (.pointer none) (.pointer none) refZ refZ false false
  | 1, p0, _ => pairL (ptr p0) (.pointer none) (refL sd0 nilS nilS) refZ false false
  | _ + 2, p0, p1 => pairL (ptr p0) (ptr p1) (refL sd0 nilS nilS) (refL sd1 nilS nilS) false false
/-- Begin's world behind k rounds -/
structure Bg (A : Nat → Addr) (w0 : World) (g k p0 p1 : Nat) (own : Nat → Nat) (W : World) : Prop where
  gs : Gs A w0 own W
  box : CellsO own 11 W g 81 (bgL k p0 p1)
  s0 : 1 ≤ k → StmI own 1 W p0 sd0
  s1 : 2 ≤ k → StmI own 6 W p1 sd1
variable {g k p0 p1 : Nat} {W W' : World}
theorem Bg.sn (h : Bg A w0 g k p0 p1 own W) (s : Sn (fun _ => False) own W own' W') : Bg A w0 g k p0 p1 own' W' :=
  ⟨h.gs.sn s (fun x => x), h.box.sn s (fun x => x), fun e => (h.s0 e).sn s (fun _ _ _ x => x), fun e => (h.s1 e).sn s (fun _ _ _ x => x)⟩
theorem Bg.quiet (h : Aside (Bg A w0 g k p0 p1 own W)) (x : Keeps Nowhere W W') : Aside (Bg A w0 g k p0 p1 own W') := ⟨h.it.sn (Sn.same x)⟩
end
end Go.Proofs.YteghehhifebhcaaDoor
