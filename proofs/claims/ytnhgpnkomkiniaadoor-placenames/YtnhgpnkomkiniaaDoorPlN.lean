/-
  PlaceNames
-/
import Derived.Test.YtnhgpnkomkiniaaDoorPlD
namespace Go.Proofs.YtnhgpnkomkiniaaDoor
open Go.RowKit

variable {A : Nat → Addr} {w w' W : World} {b : Nat}

/-- the sentinels, and d's box -/
structure Nm (A : Nat → Addr) (w : World) (b : Nat) (W : World) : Prop where
  s : Sents 61 codeVars A W
  k : Keeps Nowhere w W
  d : Cells W b 23 [.bool true, .bool true, .int .i64 0, .int .i64 9]
theorem Nm.quiet (h : Nm A w b W) (k : Keeps Nowhere W w') : Nm A w b w' := ⟨h.s.later k.bel, h.k.trans k, h.d.later k (fun x => x)⟩
theorem Nm.cells (h : Aside (Nm A w b W)) : W.cell? ⟨b, 0, none⟩ = some (.bool true) ∧ W.cell? ⟨b, 1, none⟩ = some (.bool true) ∧ W.cell? ⟨b, 2, none⟩ = some (.int .i64 0) ∧ W.cell? ⟨b, 3, none⟩ = some (.int .i64 9) := ⟨by rw [h.it.d.cell]; rfl, by rw [h.it.d.cell]; rfl, by rw [h.it.d.cell]; rfl, by rw [h.it.d.cell]; rfl⟩
theorem Nm.cellsA (h : Aside (Nm A w b W)) {o : Obj} : (W.alloc o).cell? ⟨b, 0, none⟩ = some (.bool true) ∧ (W.alloc o).cell? ⟨b, 1, none⟩ = some (.bool true) ∧ (W.alloc o).cell? ⟨b, 2, none⟩ = some (.int .i64 0) ∧ (W.alloc o).cell? ⟨b, 3, none⟩ = some (.int .i64 9) := Nm.cells ⟨h.it.quiet ((Keeps.refl _ _).alloc o)⟩
theorem nm_load (h : Aside (Nm A w b W)) (o f : Int) : Calls Tryd.prog 9 #[.int .i64 o, .int .i64 f] W fun e w' => e = .returned (.agg #[.bool true, .bool false, .int .i64 o, .int .i64 f]) ∧ Aside (Nm A w b w') := by
  refine (load_ok o f W).mono ?_
  rintro e w' ⟨rfl, K⟩
  exact ⟨rfl, ⟨h.it.quiet K.it⟩⟩
theorem nm_ok (h : Aside (Nm A w b W)) (cs : Array Value) (zs : List LoadV) (k : Int) (a n : Nat) (e : k = (a : Int)) (p : IsPick 2 zs a) (hcs : cs = (lc zs).toArray) (hb : Bds zs) (hn : zs.length = n) (hm : n ≤ maxLen) :
    Calls Tryd.prog 8 #[.slice (some ⟨W.heap.size, 0, none⟩) n n, .int .i64 2] (W.alloc (.cells cs 23)) fun e w' => e = .returned (.tuple #[.int .i64 k, .nilIface]) ∧ Aside (Nm A w b w') := by
  have h' : Nm A w b (W.alloc (.cells cs 23)) := h.it.quiet ((Keeps.refl _ _).alloc _)
  refine (pick_okI _ zs 2 k a e p (lds_new W cs zs hcs hb n hn hm) h'.s).mono ?_
  rintro e w' ⟨rfl, K⟩
  exact ⟨rfl, ⟨h'.quiet K.it⟩⟩
theorem nm_no (h : Aside (Nm A w b W)) (cs : Array Value) (zs : List LoadV) (c : Int) (n : Nat) (e : whyN 2 zs = c) (p : NoneMay 2 zs) (hcs : cs = (lc zs).toArray) (hb : Bds zs) (hn : zs.length = n) (hm : n ≤ maxLen) :
    Calls Tryd.prog 8 #[.slice (some ⟨W.heap.size, 0, none⟩) n n, .int .i64 2] (W.alloc (.cells cs 23)) fun e w' => ∃ q, e = .returned (.tuple #[.int .i64 0, .iface 61 (.pointer (some q))]) ∧ Hid (Coded A (.iface 61 (.pointer (some q))) c) ∧ Aside (Nm A w b w') := by
  subst e
  have h' : Nm A w b (W.alloc (.cells cs 23)) := h.it.quiet ((Keeps.refl _ _).alloc _)
  refine (pick_no _ zs 2 p (lds_new W cs zs hcs hb n hn hm) h'.s).mono ?_
  rintro e w' ⟨q, rfl, C, K⟩
  exact ⟨q, rfl, C, ⟨h'.quiet K.it⟩⟩
theorem nm_code (h : Aside (Nm A w b W)) {v : Value} {c : Int} (C : Hid (Coded A v c)) : Calls Tryd.prog 11 #[v] W fun e w' => e = .returned (.int .i64 c) ∧ Aside (Nm A w b w') := by
  refine (code_of h.it.s C.out).mono ?_
  rintro e w' ⟨rfl, rfl⟩
  exact ⟨rfl, h⟩
theorem nm_fixed (h : Aside (Nm A w b W)) : Calls Tryd.prog 10 #[] W fun e w' => e = .returned (.bool true) ∧ Aside (Nm A w b w') := by
  refine (fixed21 h.it.s).mono ?_
  rintro e w' ⟨rfl, K⟩
  exact ⟨rfl, ⟨h.it.quiet K.it⟩⟩
abbrev dr (o f : Int) : LoadV := ⟨true, true, o, f⟩
abbrev no0 : LoadV := ⟨false, false, 0, 0⟩
theorem noneC : NoneMay 2 [no0, dr 0 9, dr 5 0] := fun z hz => by simp only [List.mem_cons, List.not_mem_nil, or_false] at hz; rcases hz with rfl | rfl | rfl <;> rfl
theorem noneD : NoneMay 2 [ld 2 9, dr 0 9, ld 3 0, no0] := fun z hz => by simp only [List.mem_cons, List.not_mem_nil, or_false] at hz; rcases hz with rfl | rfl | rfl | rfl <;> rfl
theorem noneE : NoneMay 2 [ld 2 9, ld 0 0] := fun z hz => by simp only [List.mem_cons, List.not_mem_nil, or_false] at hz; rcases hz with rfl | rfl <;> rfl
theorem bdsA : Bds [ld 2 9, ld 1 0, ld 1 3] := fun z hz => by simp only [List.mem_cons, List.not_mem_nil, or_false] at hz; rcases hz with rfl | rfl | rfl <;> decide
theorem bdsB : Bds [no0, ld 1 9, dr 0 9] := fun z hz => by simp only [List.mem_cons, List.not_mem_nil, or_false] at hz; rcases hz with rfl | rfl | rfl <;> decide
theorem bdsC : Bds [no0, dr 0 9, dr 5 0] := fun z hz => by simp only [List.mem_cons, List.not_mem_nil, or_false] at hz; rcases hz with rfl | rfl | rfl <;> decide
theorem bdsD : Bds [ld 2 9, dr 0 9, ld 3 0, no0] := fun z hz => by simp only [List.mem_cons, List.not_mem_nil, or_false] at hz; rcases hz with rfl | rfl | rfl | rfl <;> decide
theorem bdsE : Bds [ld 2 9, ld 0 0] := fun z hz => by simp only [List.mem_cons, List.not_mem_nil, or_false] at hz; rcases hz with rfl | rfl <;> decide

set_option maxHeartbeats 4000000 in
theorem placeNames_walk {A : Nat → Addr} (w : World) (hs : Sents 61 codeVars A w) :
    Calls Tryd.prog 3 #[] w fun e w' => e = .returned (.bool true) ∧ Below w.heap.size w w' := by
  obtain ⟨W, hW⟩ : ∃ W, W = w.alloc (.cells #[.bool true, .bool true, .int .i64 0, .int .i64 9] 23) := ⟨_, rfl⟩
  have N0 : Aside (Nm A w w.heap.size W) := ⟨by
    have K : Keeps Nowhere w W := by rw [hW]; exact (Keeps.refl _ _).alloc _
    exact ⟨hs.later K.bel, K, by rw [hW]; exact Cells.new w _ _⟩⟩
  clear hs
  go_enter Tryd.func3, Tryd.ntmps3
  go_upto_region 2 with fail
  rw [← hW]
  clear hW
  generalize w.heap.size = b at *
  go_upto_region 3 with (first
    | (go_at_call 9; refine (nm_load N0 _ _).mono ?_; clear N0; rintro e w1 ⟨rfl, N0⟩)
    | (go_at_call 8; refine (nm_ok N0 _ [ld 2 9, ld 1 0, ld 1 3] 2 2 3 rfl isPick_b rfl bdsA rfl (by decide)).mono ?_; clear N0; rintro e w2 ⟨rfl, N0⟩)
    | fail)
  replace N0 : Aside (Nm A w b w2.drew) := ⟨N0.it.quiet (Keeps.refl _ _).drew⟩
  go_region_held3 (fun w' => w'.cell? ⟨b, 0, none⟩ = some (.bool true) ∧ w'.cell? ⟨b, 1, none⟩ = some (.bool true) ∧ w'.cell? ⟨b, 2, none⟩ = some (.int .i64 0) ∧ w'.cell? ⟨b, 3, none⟩ = some (.int .i64 9)) (first | with_reducible exact Nm.cells (by with_reducible assumption) | with_reducible exact Nm.cellsA (by with_reducible assumption)) (first
    | (go_at_call 9; refine (nm_load N0 _ _).mono ?_; clear N0; rintro e w1 ⟨rfl, N0⟩)
    | (go_at_call 8; refine (nm_ok N0 _ [no0, ld 1 9, dr 0 9] 1 1 3 rfl isPick_c rfl bdsB rfl (by decide)).mono ?_; clear N0; rintro e w2 ⟨rfl, N0⟩))
  go_upto_region 5 with (first
    | (go_at_call 8; refine (nm_no N0 _ [no0, dr 0 9, dr 5 0] 36 3 (by decide) noneC rfl bdsC rfl (by decide)).mono ?_; clear N0; rintro e w3 ⟨q3, rfl, C3, N0⟩)
    | fail)
  replace N0 : Aside (Nm A w b w3.drew) := ⟨N0.it.quiet (Keeps.refl _ _).drew⟩
  go_region_held3 (fun w' => w'.cell? ⟨b, 0, none⟩ = some (.bool true) ∧ w'.cell? ⟨b, 1, none⟩ = some (.bool true) ∧ w'.cell? ⟨b, 2, none⟩ = some (.int .i64 0) ∧ w'.cell? ⟨b, 3, none⟩ = some (.int .i64 9)) (first | with_reducible exact Nm.cells (by with_reducible assumption) | with_reducible exact Nm.cellsA (by with_reducible assumption)) (first
    | (go_at_call 9; refine (nm_load N0 _ _).mono ?_; clear N0; rintro e w1 ⟨rfl, N0⟩)
    | (go_at_call 8; refine (nm_no N0 _ [ld 2 9, dr 0 9, ld 3 0, no0] 31 4 (by decide) noneD rfl bdsD rfl (by decide)).mono ?_; clear N0; rintro e w4 ⟨q4, rfl, C4, N0⟩))
  go_upto_region 7 with (first
    | (go_at_call 9; refine (nm_load N0 _ _).mono ?_; clear N0; rintro e w1 ⟨rfl, N0⟩)
    | (go_at_call 8; refine (nm_no N0 _ [ld 2 9, ld 0 0] 32 2 (by decide) noneE rfl bdsE rfl (by decide)).mono ?_; clear N0; rintro e w5 ⟨q5, rfl, C5, N0⟩)
    | fail)
  go_wp2_with (first
    | (go_at_call 10; refine (nm_fixed N0).mono ?_; clear N0; rintro e w1 ⟨rfl, N0⟩)
    | (go_at_call_of 11 q3; refine (nm_code N0 C3).mono ?_; clear N0; rintro e w1 ⟨rfl, N0⟩)
    | (go_at_call_of 11 q4; refine (nm_code N0 C4).mono ?_; clear N0; rintro e w1 ⟨rfl, N0⟩)
    | (go_at_call_of 11 q5; refine (nm_code N0 C5).mono ?_; clear N0; rintro e w1 ⟨rfl, N0⟩)
    | fail)
  go_ret
  exact ⟨rfl, N0.it.k.bel⟩
end Go.Proofs.YtnhgpnkomkiniaaDoor
