/-
  OutNil, walked.
-/
import Derived.Test.YtlooiikddachdaaDoorOutV
import Derived.Test.YtlooiikddachdaaDoorOpenO
namespace Go.Proofs.YtlooiikddachdaaDoor
open Go.RowKit

set_option maxHeartbeats 2000000 in
theorem outNil_walk {A : Nat → Addr} (v : Value) (z : OpV6) (w : World) (hs : Sents 108 codeVars A w) (hz : Op6Arg w v z) :
    Calls Tryd.prog 5 #[v] w fun e w' => e = .returned (.bool true) ∧ Below w.heap.size w w' := by
  obtain ⟨rfl, b, _, hh, hr, hb, hn, _⟩ := hz
  obtain ⟨kind, ⟨v, t, f, s, l⟩, sl, ns, n⟩ := z
  simp only at hr hb hn
  obtain ⟨a, c, hd⟩ := hr.shape
  subst hd
  obtain ⟨N, hN⟩ : ∃ N, N = ns.length := ⟨_, rfl⟩
  rw [← hN] at hr ⊢
  obtain ⟨W0, hW0⟩ : ∃ W0, W0 = w.alloc (.cells #[.int .i64 kind, .int .u8 v, .int .u8 t, .int .u16 f, .int .u32 s, .int .u32 l, .slice a N c, .int .i64 n] 39) := ⟨_, rfl⟩
  have k0 : Keeps Nowhere w W0 := by rw [hW0]; exact (Keeps.refl _ _).alloc _
  have C0 : Aside (Cells W0 w.heap.size 39 [.int .i64 kind, .int .u8 v, .int .u8 t, .int .u16 f, .int .u32 s, .int .u32 l, .slice a N c, .int .i64 n]) := ⟨by rw [hW0]; exact Cells.new w _ _⟩
  have K0 := Aside.mk k0
  have W1 := Aside.mk (wakes_any (hs.later k0.bel))
  have HS := Aside.mk hs
  have HR := Aside.mk hr
  have HN := Aside.mk hn
  clear hs hr hb hh k0 hn hN
  show Calls Tryd.prog 5 #[.agg #[.int .i64 kind, .int .u8 v, .int .u8 t, .int .u16 f, .int .u32 s, .int .u32 l, .slice a N c, .int .i64 n]] w _
  go_enter Tryd.func5, Tryd.ntmps5
  go_upto_region 1 with fail
  rw [← hW0]
  clear hW0
  go_upto_region 4 with (first | (go_at_call 7; refine W1.it.mono ?_; rintro e w1 ⟨rfl, b1⟩; have K1 : Aside (Keeps Nowhere w w1) := ⟨K0.it.trans (Keeps.ofBelow b1)⟩; have D1 := C0.it.later (Keeps.ofBelow (S := Nowhere) b1) (fun x => x); have D1' := Aside.mk D1; clear b1) | fail)
  have x1 : w1.cell? ⟨w.heap.size, 1, none⟩ = some (.int .u8 v) := by rw [D1.cell]; rfl
  have x2 : w1.cell? ⟨w.heap.size, 2, none⟩ = some (.int .u8 t) := by rw [D1.cell]; rfl
  have x3 : w1.cell? ⟨w.heap.size, 3, none⟩ = some (.int .u16 f) := by rw [D1.cell]; rfl
  have x4 : w1.cell? ⟨w.heap.size, 4, none⟩ = some (.int .u32 s) := by rw [D1.cell]; rfl
  have x5 : w1.cell? ⟨w.heap.size, 5, none⟩ = some (.int .u32 l) := by rw [D1.cell]; rfl
  have x6 : w1.cell? ⟨w.heap.size, 6, none⟩ = some (.slice a N c) := by rw [D1.cell]; rfl
  clear D1
  have CP := Aside.mk (copied_any (w := w1) (fun _ => 0) 1 v t f s l (.slice a N c) ns (HR.it.later K1.it.bel) (by have := HN.it; omega))
  go_wp2_with (first
    | (go_at_call 17; refine (clear_nilB _).mono ?_; rintro e w6 ⟨rfl, rfl⟩)
    | (go_at_call 16; refine (frames_nil _).mono ?_; rintro e w5 ⟨rfl, rfl⟩)
    | (go_at_call 15; refine (len_nilB _).mono ?_; rintro e w5 ⟨rfl, rfl⟩)
    | (go_at_call 14; refine (take_nilB _ _).mono ?_; rintro e w5 ⟨rfl, rfl⟩)
    | (go_at_call 13; refine (code_of (HS.it.later K3.it.bel) X3.it.1).mono ?_; rintro e w4 ⟨rfl, rfl⟩)
    | (go_at_call 12; refine (putB_nil (A := A) w2 (HS.it.later K2.it.bel) v t f s l d2 hd2).mono ?_; rintro e w3 ⟨er, rfl, X3⟩; have K3 : Aside (Keeps Nowhere w w3) := ⟨K2.it.trans X3.it.2⟩; have E3 := D2.it.later X3.it.2 (fun x => x); have x7 : w3.cell? ⟨w.heap.size, 7, none⟩ = some (.int .i64 n) := (by rw [E3.cell]; rfl); clear E3)
    | (go_at_call 11; refine CP.it.mono ?_; rintro e w2 ⟨d2, rfl, X2⟩; have K2 : Aside (Keeps Nowhere w w2) := ⟨K1.it.trans X2.it.2⟩; have hd2 : ∃ a n c, d2 = .slice a n c := (by obtain ⟨x, y, e⟩ := X2.it.1.shape; exact ⟨_, _, _, e⟩); have D2 := Aside.mk (D1'.it.later X2.it.2 (fun x => x)); clear x1 x2 x3 x4 x5 x6)
    | fail)
  go_ret
  exact ⟨rfl, K3.it.bel⟩
end Go.Proofs.YtlooiikddachdaaDoor
