/-
  culvertlaw19.PipeNil
-/
import Derived.Test.YtpmmjekaefemeaaDoorPqA
import Derived.Test.YtpmmjekaefemeaaDoorOpenPp
import Derived.Test.YtpmmjekaefemeaaDoorCodedZ
namespace Go.Proofs.YtpmmjekaefemeaaDoor
open Go.RowKit

set_option maxRecDepth 20000 in
set_option maxHeartbeats 2000000 in
theorem pipeNil_walk {A : Nat → Addr} (v : Value) (z : OpV19) (w : World) (hs : Sents 93 codeVars A w) (hz : Op19Arg w v z) :
    Calls Tryd.prog 6 #[v] w fun e w' => e = .returned (.bool true) ∧ Below w.heap.size w w' := by
  obtain ⟨rfl, bk, _, hr, _, hl, _⟩ := hz
  obtain ⟨kd, sl, ns, n⟩ := z
  obtain ⟨a, c, hsl⟩ := hr.shape
  simp only at hsl hr hl
  subst hsl
  obtain ⟨N, hN⟩ : ∃ N, ns.length = N := ⟨_, rfl⟩
  have HN := Aside.mk hN
  have HL := Aside.mk hl
  have HR := Aside.mk hr
  have HS := Aside.mk hs
  rw [hN] at HR
  simp only [OpV19.cells]
  rw [hN]
  have B0 : Cells (w.alloc (.cells #[.int .i64 kd, .slice a N c, .int .i64 n] 32)) w.heap.size 32 [.int .i64 kd, .slice a N c, .int .i64 n] := Cells.new w _ _
  have K0 : Aside (Keeps Nowhere w (w.alloc (.cells #[.int .i64 kd, .slice a N c, .int .i64 n] 32))) := ⟨(Keeps.refl _ _).alloc _⟩
  obtain ⟨W0, hW0⟩ : ∃ W0, (w.alloc (.cells #[.int .i64 kd, .slice a N c, .int .i64 n] 32)) = W0 := ⟨_, rfl⟩
  obtain ⟨ob, hob⟩ : ∃ ob, w.heap.size = ob := ⟨_, rfl⟩
  rw [hW0] at B0 K0
  rw [hob] at B0
  have HB := Aside.mk B0
  have WK := Aside.mk (wakes19 W0)
  clear hs hr hl hN B0
  go_enter Tryd.func6, Tryd.ntmps6
  go_upto_region 1 with fail
  clear hW0 hob
  go_upto_region 4 with (go_at_call 8; refine WK.it.mono ?_; clear WK; rintro e w1 ⟨rfl, K1⟩)
  have b1 : w1.cell? ⟨ob, 1, none⟩ = some (.slice a N c) := by rw [(HB.it.later K1.it (fun x => x)).cell]; rfl
  have K01 := Aside.mk (K0.it.trans K1.it)
  have CP := Aside.mk (copied19 (HR.it.keep K01.it (fun _ _ x => x)) (by have := HL.it; omega))
  rw [HN.it] at CP
  go_upto_region 5 with (first
    | (go_at_call 12; refine CP.it.mono ?_; clear CP; rintro e w2 ⟨a2, c2, rfl, X2⟩; have K2 := Aside.mk (K01.it.trans X2.it.k); have PN := Aside.mk (put_nil19 w2 (.slice a2 N c2) _ ((HS.it.later K2.it.bel).cell 0 _ rfl)))
    | (go_at_call 11; refine PN.it.mono ?_; clear PN; rintro e w3 ⟨rfl, k3⟩; have K3 := Aside.mk (K2.it.trans k3))
    | fail)
  have b2 : w3.cell? ⟨ob, 2, none⟩ = some (.int .i64 n) := by rw [(HB.it.later (((K1.it.trans X2.it.k).trans k3)) (fun x => x)).cell]; rfl
  have CD := Aside.mk (code_of (HS.it.later K3.it.bel) (Coded.mk 0 1 (by decide) (by decide) rfl))
  go_wp2_with (first
    | (go_at_call 18; refine CD.it.mono ?_; clear CD; rintro e w4 ⟨rfl, hw4⟩; subst hw4)
    | (go_at_call 14; refine (move_nil19 _ n).mono ?_; rintro e w5 ⟨rfl, hw5⟩; subst hw5)
    | (go_at_call 13; refine (len_nil19 _).mono ?_; rintro e w6 ⟨rfl, hw6⟩; subst hw6)
    | (go_at_call 17; refine (cut_nil19 _).mono ?_; rintro e w7 ⟨rfl, hw7⟩; subst hw7)
    | (go_at_call 16; refine (broken_nil19 _).mono ?_; rintro e w8 ⟨rfl, hw8⟩; subst hw8)
    | (go_at_call 15; refine (passed_nil19 _).mono ?_; rintro e w9 ⟨rfl, hw9⟩; subst hw9)
    | fail)
  go_ret
  exact ⟨rfl, K3.it.bel⟩
end Go.Proofs.YtpmmjekaefemeaaDoor
