/-
  RingAnswers: the walk
-/
import Derived.Test.YtmcnggkfejfjoaaDoorRingStep
import Derived.Test.YtmcnggkfejfjoaaDoorRingBegin
import Derived.Test.YtmcnggkfejfjoaaDoorRingOps2
import Derived.Test.YtmcnggkfejfjoaaDoorRingFixed
namespace Go.Proofs.YtmcnggkfejfjoaaDoor
open Go.RowKit Rint

def OpKept (bo : Nat) (cs : List Value) : Nat → TypeId → List Value → Prop := fun g e c => g = bo ∧ e = 38 ∧ c = cs

set_option maxHeartbeats 4000000 in
set_option maxRecDepth 100000 in
theorem ringAnswers_walk {A : Nat → Addr} (script : Value) (ops : List OpV) (w : World) (hs : Sents 127 codeVars A w) (ho : OpsAt2 w script ops) :
    Calls Tryd.prog 4 #[script] w fun e w' => e = .returned (.bool true) ∧ Below w.heap.size w w' := by
  obtain ⟨oa, oc, rfl, hoc, hom, hops⟩ := ho
  obtain ⟨no, hno⟩ : ∃ no, no = ops.length := ⟨_, rfl⟩
  rw [← hno] at hoc ⊢
  have OPS : Aside _ := ⟨hops⟩
  have NO : Aside _ := ⟨hno⟩
  have HS : Aside _ := ⟨hs⟩
  have hno1 : no ≤ 9223372036854775807 := Nat.le_trans hoc hom
  clear hops hno hs
  go_enter Tryd.func4, Tryd.ntmps4
  go_wp2_with fail
  refine (fixed_ok w).mono ?_
  rintro e w1 ⟨rfl, b1⟩
  have B1 : Aside _ := ⟨b1⟩
  clear b1
  go_wp2_with fail
  refine (begin_ok w.heap.size w w1 B1.it B1.it.size).mono ?_
  rintro e w2 ⟨p, rfl, hpl⟩
  have P2 : Aside _ := ⟨hpl⟩
  clear hpl B1
  go_wp2
  go_loopw [17] (fun x wr => ∃ k : Nat, k ≤ no ∧ x = .int .i64 k ∧ ∃ R C L V own, PlayAt w.heap.size w NoneKept p R C L V own wr) (fun x _ => no - (intOf x).toNat)
  case atStart => exact ⟨0, Nat.zero_le _, rfl, P2.it⟩
  case round =>
    obtain ⟨k, hk, rfl, R, C, L, V, own, hpl⟩ := hrel
    have PL : Aside _ := ⟨hpl⟩
    clear hpl P2
    by_cases hkn : k < no
    · obtain ⟨op, hop⟩ : ∃ op, ops[k]? = some op := ⟨_, List.getElem?_eq_getElem (by have := NO.it; omega)⟩
      obtain ⟨xb, xo, s, rfl, c0, c1, c2, c3, hrd, hnl, hsz⟩ := OPS.it k op hop
      have d0 := PL.it.ground.cell rfl c0
      have d1 := PL.it.ground.cell rfl c1
      have d2 := PL.it.ground.cell rfl c2
      have d3 := PL.it.ground.cell rfl c3
      have RD : Aside _ := ⟨hrd⟩
      have NL : Aside _ := ⟨hnl⟩
      have SZ : Aside _ := ⟨hsz⟩
      obtain ⟨sa, sc, hse, hsc, _⟩ := hrd
      obtain ⟨m, hm⟩ : ∃ m, m = (iv op.items).length := ⟨_, rfl⟩
      rw [← hm] at hse hsc
      subst hse
      clear c0 c1 c2 c3 hop hm hnl hsz
      go_upto_region 9 with fail
      obtain ⟨w4, hw4⟩ : ∃ w4, w4 = wr.alloc (.cells [.int .i64 op.kind, .int .i64 op.at', .int .i64 op.n, .slice sa m sc].toArray 38) := ⟨_, rfl⟩
      have ew : wr.alloc (.cells #[.int .i64 op.kind, .int .i64 op.at', .int .i64 op.n, .slice sa m sc] 38) = w4 := hw4.symm
      rw [ew]
      have ka : Keeps Nowhere wr w4 := by rw [hw4]; exact (Keeps.refl _ _).alloc _
      obtain ⟨bo, hbo⟩ : ∃ bo, bo = wr.heap.size := ⟨_, rfl⟩
      have C4 : Aside (Cells w4 bo 38 [.int .i64 op.kind, .int .i64 op.at', .int .i64 op.n, .slice sa m sc]) := ⟨by rw [hw4, hbo]; exact Cells.new wr _ _⟩
      have P4 : Aside (PlayAt w.heap.size w (OpKept bo [.int .i64 op.kind, .int .i64 op.at', .int .i64 op.n, .slice sa m sc]) p R C L V (give own wr.heap.size 30) w4) := ⟨(PL.it.two.fresh ka 30).one.keepLess (by
        rintro g e cs ⟨rfl, rfl, rfl⟩
        exact ⟨C4.it, by rw [hbo]; exact give_new (Nat.le_refl _)⟩)⟩
      rw [← hbo]
      clear hw4 ew ka hbo PL d0 d1 d2 d3
      have x0 : w4.cell? ⟨bo, 0, none⟩ = some (.int .i64 op.kind) := by rw [C4.it.cell]; rfl
      have x1 : w4.cell? ⟨bo, 1, none⟩ = some (.int .i64 op.at') := by rw [C4.it.cell]; rfl
      have x2 : w4.cell? ⟨bo, 2, none⟩ = some (.int .i64 op.n) := by rw [C4.it.cell]; rfl
      have x3 : w4.cell? ⟨bo, 3, none⟩ = some (.slice sa m sc) := by rw [C4.it.cell]; rfl
      go_wp2_with fail
      refine (step_ok P4.it rfl HS.it op _ RD.it NL.it SZ.it).mono ?_
      rintro e w5 ⟨rfl, R5, C5, L5, V5, own5, hp5⟩
      have P5 : Aside _ := ⟨hp5⟩
      have y1 : w5.cell? ⟨bo, 1, none⟩ = some (.int .i64 op.at') := by rw [(hp5.kept bo _ _ ⟨rfl, rfl, rfl⟩).1.cell]; rfl
      clear hp5 P4 C4 x0 x1 x2 x3
      obtain ⟨i, hi, hie⟩ := idx_lt op.at'
      have SE := seen_ok P5.it i hi
      rw [← hie] at SE
      have SEA : Aside _ := ⟨SE⟩
      clear SE hie
      go_wp2_with fail
      refine SEA.it.mono ?_
      rintro e w6 ⟨rfl, k6⟩
      have P6 : Aside _ := ⟨(P5.it.quiet k6).keepLess (Y := NoneKept) (fun _ _ _ h => h.elim)⟩
      clear k6
      go_wp2
      go_roundw
      case rel => exact ⟨k + 1, by omega, by go_num, _, _, _, _, _, P6.it⟩
      case measure => simp [intOf]; omega
    · obtain rfl : k = no := by omega
      go_wp2_with fail
      refine (seen_ok PL.it 0 (by decide)).mono ?_
      rintro e w5 ⟨rfl, k5⟩
      have P5 : Aside _ := ⟨PL.it.quiet k5⟩
      clear k5
      go_wp2_with fail
      refine (seen_ok P5.it 1 (by decide)).mono ?_
      rintro e w6 ⟨rfl, k6⟩
      have P6 : Aside _ := ⟨P5.it.quiet k6⟩
      clear k6
      go_wp2_with fail
      refine (seen_ok P6.it 2 (by decide)).mono ?_
      rintro e w7 ⟨rfl, k7⟩
      have P7 : Aside _ := ⟨P6.it.quiet k7⟩
      clear k7
      go_wp2_with fail
      refine (seen_ok P7.it 3 (by decide)).mono ?_
      rintro e w8 ⟨rfl, k8⟩
      have P8 : Aside _ := ⟨P7.it.quiet k8⟩
      clear k8
      go_wp2
      go_ret
      exact ⟨rfl, P8.it.ground.bel⟩
end Go.Proofs.YtmcnggkfejfjoaaDoor
