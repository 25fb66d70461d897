/-
  package feed: the decoder's memory; New, Err, Held, Wants.
-/
import Derived.Test.YtjhjhmhhnifgmaaDoorFrameG
import Derived.Test.YtjhjhmhhnifgmaaDoorFrameH
import Derived.Test.YtjhjhmhhnifgmaaDoorBase
import Derived.Test.YtjhjhmhhnifgmaaDoorCodeViol
import Derived.Test.YtjhjhmhhnifgmaaDoorFeedP
import Derived.Test.YtjhjhmhhnifgmaaDoorAppO
namespace Go.Proofs.YtjhjhmhhnifgmaaDoor
open Go.RowKit

/-- a decoder's cells -/
abbrev decL (most : Int) (hv : Value) (v t f s l : Int) (dp : Value) : List Value := [.int .i64 most, hv, .int .u8 v, .int .u8 t, .int .u16 f, .int .u32 s, .int .u32 l, dp]
abbrev dPtr (p : Nat) : Value := .pointer (some ⟨p, 0, none⟩)
/-- a decoder in block p that holds these bytes -/
structure DecIn (w : World) (p : Nat) (most : Int) (hv : Value) (hs : List Int) (v t f s l : Int) (dp : Value) : Prop where
  c : Cells w p 55 (decL most hv v t f s l dp)
  r : w.ownsRow 0 5 1 hv hs.length (bv hs)

theorem new_ok (most : Int) (w : World) (h1 : 1 ≤ most) (h2 : most ≤ 65536) :
    Calls Tryd.prog 5 #[.int .i64 most] w fun e w' => e = .returned (.tuple #[dPtr w.heap.size, .nilIface]) ∧ w' = w.alloc (.cells (decL most (.slice none 0 0) 0 0 0 0 0 (.pointer none)).toArray 55) := by
  have h1' : ¬ most < 1 := by omega
  have h2' : ¬ 65536 < most := by omega
  go_enter Tryd.func5, Tryd.ntmps5
  go_wp2
  go_ret2
  exact ⟨rfl, rfl⟩
theorem new_bad {A : Nat → Addr} (most : Int) (w : World) (hs : Sents 116 codeVars A w) (h : most < 1 ∨ 65536 < most) :
    Calls Tryd.prog 5 #[.int .i64 most] w fun e w' => e = .returned (.tuple #[.pointer none, .iface 116 (.pointer (some (A 1)))]) ∧ ∃ n, w' = w.drewN n := by
  have hc := hs.cell 1 0 rfl
  clear hs
  rcases h with h | h
  · go_enter Tryd.func5, Tryd.ntmps5
    go_wp2
    go_quiet (fail)
    go_wp2
    go_ret2
    exact ⟨rfl, _, rfl⟩
  · have h1' : ¬ most < 1 := by omega
    go_enter Tryd.func5, Tryd.ntmps5
    go_wp2
    go_quiet (fail)
    go_wp2
    go_ret2
    exact ⟨rfl, _, rfl⟩
theorem err_nil (w : World) : Calls Tryd.prog 17 #[.pointer none] w fun e w' => e = .returned .nilIface ∧ w' = w := by
  go_enter Tryd.func17, Tryd.ntmps17
  go_wp2
  go_ret
  exact ⟨rfl, rfl⟩
theorem held_nil (w : World) : Calls Tryd.prog 10 #[.pointer none] w fun e w' => e = .returned (.int .i64 0) ∧ w' = w := by
  go_enter Tryd.func10, Tryd.ntmps10
  go_wp2
  go_ret
  exact ⟨rfl, rfl⟩
theorem wants_nil (w : World) : Calls Tryd.prog 12 #[.pointer none] w fun e w' => e = .returned (.int .i64 0) ∧ w' = w := by
  go_enter Tryd.func12, Tryd.ntmps12
  go_wp2
  go_ret
  exact ⟨rfl, rfl⟩
section
variable {w : World} {p : Nat} {most : Int} {hv : Value} {hs : List Int} {v t f s l : Int} {dp : Value}
theorem err_live (h : Cells w p 55 (decL most hv v t f s l (.pointer none))) :
    Calls Tryd.prog 17 #[dPtr p] w fun e w' => e = .returned .nilIface ∧ ∃ n, w' = w.drewN n := by
  have c7 := h.cell 7
  simp at c7
  clear h
  go_enter Tryd.func17, Tryd.ntmps17
  go_wp2
  go_ret
  exact ⟨rfl, 0, rfl⟩
theorem err_dead {vb : Nat} (h : Cells w p 55 (decL most hv v t f s l (.pointer (some ⟨vb, 0, none⟩)))) :
    Calls Tryd.prog 17 #[dPtr p] w fun e w' => e = .returned (vio vb) ∧ ∃ n, w' = w.drewN n := by
  have c7 := h.cell 7
  simp at c7
  clear h
  go_enter Tryd.func17, Tryd.ntmps17
  go_wp2
  go_ret
  exact ⟨rfl, 0, rfl⟩
theorem held_any (h : DecIn w p most hv hs v t f s l dp) :
    Calls Tryd.prog 10 #[dPtr p] w fun e w' => e = .returned (.int .i64 hs.length) ∧ ∃ n, w' = w.drewN n := by
  obtain ⟨q, c, rfl⟩ := owns_val h.r
  have c1 := h.c.cell 1
  simp at c1
  clear h
  go_enter Tryd.func10, Tryd.ntmps10
  go_wp2
  go_ret
  exact ⟨rfl, 0, rfl⟩
theorem wants_dead {vb : Nat} (h : Cells w p 55 (decL most hv v t f s l (.pointer (some ⟨vb, 0, none⟩)))) :
    Calls Tryd.prog 12 #[dPtr p] w fun e w' => e = .returned (.int .i64 0) ∧ ∃ n, w' = w.drewN n := by
  have c7 := h.cell 7
  simp at c7
  clear h
  go_enter Tryd.func12, Tryd.ntmps12
  go_wp2
  go_ret
  exact ⟨rfl, 0, rfl⟩
/-- how many bytes are wanted -/
def wantsI (n t l : Int) : Int := if n < 12 then 12 - n else 12 + szH t l - n
theorem DecIn.quiet {w' : World} (h : DecIn w p most hv hs v t f s l dp) (hk : Keeps Nowhere w w') : DecIn w' p most hv hs v t f s l dp := ⟨h.c.later hk (fun x => x), owns_later h.r hk (fun _ _ x => x)⟩
theorem DecIn.cells (h : Aside (DecIn w p most hv hs v t f s l dp)) :
    w.cell? ⟨p, 0, none⟩ = some (.int .i64 most) ∧ w.cell? ⟨p, 1, none⟩ = some hv ∧ w.cell? ⟨p, 2, none⟩ = some (.int .u8 v) ∧ w.cell? ⟨p, 3, none⟩ = some (.int .u8 t) ∧ w.cell? ⟨p, 4, none⟩ = some (.int .u16 f) ∧ w.cell? ⟨p, 5, none⟩ = some (.int .u32 s) ∧ w.cell? ⟨p, 6, none⟩ = some (.int .u32 l) ∧ w.cell? ⟨p, 7, none⟩ = some dp :=
  ⟨h.it.c.cell 0, h.it.c.cell 1, h.it.c.cell 2, h.it.c.cell 3, h.it.c.cell 4, h.it.c.cell 5, h.it.c.cell 6, h.it.c.cell 7⟩
theorem size_d (hl0 : 0 ≤ l) (hl1 : l ≤ 4294967295) (W : World) (h : Aside (DecIn W p most hv hs v t f s l dp)) :
    Calls Tryd.prog 21 #[hdr v t f s l] W fun e w' => e = .returned (.int .i64 (szH t l)) ∧ Aside (DecIn w' p most hv hs v t f s l dp) ∧ Aside (Keeps Nowhere W w') :=
  (size_any v t f s l W hl0 hl1).mono (by rintro e w' ⟨rfl, rfl⟩; exact ⟨rfl, ⟨h.it.quiet ((Keeps.refl _ _).alloc _)⟩, ⟨(Keeps.refl _ _).alloc _⟩⟩)
set_option maxHeartbeats 400000 in
theorem wants_long {q : Option Addr} {n c : Nat} (z : Int) (hz : szH t l = z) (h : DecIn w p most (.slice q n c) hs v t f s l (.pointer none)) (hl0 : 0 ≤ l) (hl1 : l ≤ 4294967295) (hn : n ≤ 4294967400) (hz0 : 0 ≤ z) (hz1 : z ≤ 4294967295) (h12 : ¬ n < 12) :
    Calls Tryd.prog 12 #[dPtr p] w fun e w' => e = .returned (.int .i64 (12 + z - n)) ∧ Keeps Nowhere w w' := by
  have hZ := Aside.mk (fun W => size_any v t f s l W hl0 hl1)
  rw [hz] at hZ
  clear hz
  have h12' : ¬ (n : Int) < 12 := by omega
  have c1 := h.c.cell 1
  have c2 := h.c.cell 2
  have c3 := h.c.cell 3
  have c4 := h.c.cell 4
  have c5 := h.c.cell 5
  have c6 := h.c.cell 6
  have c7 := h.c.cell 7
  simp at c1 c2 c3 c4 c5 c6 c7
  have c1' := fun ob => cell_alloc ob c1
  have e1 : Aside (IntKind.i64.wrap (IntKind.i64.wrap (12 + z) - (n : Int)) = 12 + z - n) := ⟨by rw [IntKind.wrap_i64, IntKind.wrap_i64]; omega⟩
  clear h
  go_enter Tryd.func12, Tryd.ntmps12
  go_wp2_with fail
  go_region_with ((go_at_call 21; refine (hZ.it _).mono ?_; rintro e w2 ⟨rfl, rfl⟩))
  all_goals (go_wp2_with fail)
  all_goals (go_ret; refine ⟨?_, ((Keeps.refl _ _).alloc _).drew⟩; exact congrArg (fun x => Ending.returned (Value.int .i64 x)) e1.it)
theorem wants_live (h : DecIn w p most hv hs v t f s l (.pointer none)) (hl0 : 0 ≤ l) (hl1 : l ≤ 4294967295) (hn : hs.length ≤ 4294967400) :
    Calls Tryd.prog 12 #[dPtr p] w fun e w' => e = .returned (.int .i64 (wantsI hs.length t l)) ∧ Keeps Nowhere w w' := by
  obtain ⟨q, c, rfl⟩ := owns_val h.r
  by_cases h12 : hs.length < 12
  · have h12' : (hs.length : Int) < 12 := by omega
    have e1 : Aside (wantsI hs.length t l = 12 - hs.length) := ⟨if_pos h12'⟩
    rw [e1.it]
    have c1 := h.c.cell 1
    have c7 := h.c.cell 7
    simp at c1 c7
    clear h
    go_enter Tryd.func12, Tryd.ntmps12
    go_wp2
    go_ret
    exact ⟨rfl, Keeps.refl _ _⟩
  · have e1 : Aside (wantsI hs.length t l = 12 + szH t l - hs.length) := ⟨if_neg (by omega)⟩
    rw [e1.it]
    exact wants_long (szH t l) rfl h hl0 hl1 hn (by unfold szH; split <;> omega) (by unfold szH; split <;> omega) h12
end
end Go.Proofs.YtjhjhmhhnifgmaaDoor
