/-
  culvertref28: Get
-/
import Derived.Test.YtcmgmhdlokcgbaaDoorLuT
import Derived.Deep.RegionHeldLaw
namespace Go.Proofs.YtcmgmhdlokcgbaaDoor
open Go.RowKit Lulnn

variable {w w' w0 W : World} {own own' : Nat → Nat} {i c o j b q n cb xb rb : Nat} {room R k now : Int} {L M : List Rx} {I : Nat → Prop} {A : Nat → Addr} {x y : Rx} {z : Oz} {v va vb : Value} {ks ms : List Int}

/-- what Get's last row reads: its two boxes -/
def Gs (cb xb : Nat) (R : Int) (v : Value) (x : Rx) (W : World) : Prop := (W.cell? ⟨cb, 0, none⟩ = some (.int .i64 R) ∧ W.cell? ⟨cb, 1, none⟩ = some v) ∧ W.cell? ⟨xb, 0, none⟩ = some (.int .i64 x.k) ∧ W.cell? ⟨xb, 1, none⟩ = some (.int .i64 x.t) ∧ W.cell? ⟨xb, 2, none⟩ = some (.int .i64 x.w) ∧ W.cell? ⟨xb, 3, none⟩ = some (.int .i64 x.u)
theorem gs_of (h1 : Cells W cb 31 [.int .i64 R, v]) (h2 : Cells W xb 102 (x4 x)) : Gs cb xb R v x W := ⟨⟨by rw [h1.cell]; rfl, by rw [h1.cell]; rfl⟩, by rw [h2.cell]; rfl, by rw [h2.cell]; rfl, by rw [h2.cell]; rfl, by rw [h2.cell]; rfl⟩
set_option maxRecDepth 20000 in
set_option maxHeartbeats 4000000 in
theorem dget28 (h : RdX own w v L) (R k now : Int) (hmax : L.length * 32 ≤ 140737488355328) : Calls Tryd.prog 49 #[cch R v, .int .i64 k, .int .i64 now] w fun e w' => ∃ qa qn qc, e = .returned (.tuple #[cch R (.slice qa qn qc), .int .i64 (gotT L k now), .bool (gotB L k now)]) ∧ Aside (RdX (give own w.heap.size 9) w' (.slice qa qn qc) (getL L k now)) ∧ Aside (Keeps Nowhere w w') := by
  have H := Aside.mk h
  obtain ⟨a, c, rfl, hlc, hcm, _⟩ := h.sh
  clear h
  have mx : maxLen ≤ 9223372036854775807 := by decide
  obtain ⟨W1, hW1⟩ : ∃ W1, (w.alloc (.cells #[.int .i64 R, .slice a L.length c] 31)).alloc (.cells #[.int .i64 0, .slice none 0 0] 31) = W1 := ⟨_, rfl⟩
  obtain ⟨K1, C1, C2⟩ := boxes28 w R (.slice a L.length c) W1 hW1
  have d0 : W1.cell? ⟨w.heap.size, 0, none⟩ = some (.int .i64 R) := by rw [C1.it.cell]; rfl
  have d1 : W1.cell? ⟨w.heap.size, 1, none⟩ = some (.slice a L.length c) := by rw [C1.it.cell]; rfl
  have DA := Aside.mk (dat (H.it.quiet K1.it) R k)
  cases hf : findL L k with
  | none =>
    rw [at_none hf] at DA
    have GN : Aside (gotT L k now = 0 ∧ gotB L k now = false ∧ getL L k now = L) := ⟨by unfold gotT gotB getL; rw [hf]; exact ⟨rfl, rfl, rfl⟩⟩
    go_enter Tryd.func49, Tryd.ntmps49
    go_upto_region 1 with fail
    clear hW1
    go_upto_region 2 with (first | (go_at_call 50; refine DA.it.mono ?_; clear DA; rintro e w2 ⟨rfl, K2⟩) | fail)
    have E1 := Aside.mk (C1.it.later K2.it (fun x => x))
    have E2 := Aside.mk (C2.it.later K2.it (fun x => x))
    clear d0 d1
    have d0 : w2.cell? ⟨w.heap.size, 0, none⟩ = some (.int .i64 R) := by rw [E1.it.cell]; rfl
    have d1 : w2.cell? ⟨w.heap.size, 1, none⟩ = some (.slice a L.length c) := by rw [E1.it.cell]; rfl
    have z0 : w2.cell? ⟨w.heap.size + 1, 0, none⟩ = some (.int .i64 0) := by rw [E2.it.cell]; rfl
    have z1 : w2.cell? ⟨w.heap.size + 1, 1, none⟩ = some (.slice none 0 0) := by rw [E2.it.cell]; rfl
    have h0 := E2.it.frozen 0
    have h1 := E2.it.frozen 1
    go_wp2_with fail
    obtain ⟨u0, u1, KF, _⟩ := res28 w E2.it (Nat.le_succ _) (K1.it.trans K2.it) R (.slice a L.length c)
    refine bodyPost_ret (v := .tuple #[cch R (.slice a L.length c), .int .i64 0, .bool false]) (by simp [results, Tryd.f49, go_sem, u0, u1]) rfl ?_
    obtain ⟨t1, t2, t3⟩ := GN.it
    rw [t1, t2, t3]
    exact ⟨_, _, _, rfl, ⟨H.it.sn (I := fun _ => False) (Sn.quiet KF.it 9) (fun x => x)⟩, KF⟩
  | some x =>
    obtain ⟨j, hj, ht, he, hjl⟩ := find_split hf
    rw [atI_drop hj ht (findL_some hf).2] at DA
    have HE := Aside.mk he
    have GG : Aside (now < x.u → gotT L k now = x.t ∧ gotB L k now = true ∧ getL L k now = x :: dropL L k) := ⟨fun hu => by unfold gotT gotB getL; rw [hf]; simp only [if_pos hu, decide_eq_true hu, and_self]⟩
    have GO : Aside (x.u ≤ now → gotT L k now = 0 ∧ gotB L k now = false ∧ getL L k now = dropL L k) := ⟨fun hu => by unfold gotT gotB getL; rw [hf]; simp only [if_neg (Int.not_lt.2 hu), decide_eq_false (Int.not_lt.2 hu), and_self]⟩
    obtain ⟨g, c', hv, _, x0, x1, x2, x3⟩ := H.it.at_ j x hj
    injection hv with hv1 hv2 hv3
    subst hv1 hv3
    go_enter Tryd.func49, Tryd.ntmps49
    go_upto_region 1 with fail
    clear hW1
    go_upto_region 2 with (first | (go_at_call 50; refine DA.it.mono ?_; clear DA; rintro e w2 ⟨rfl, K2⟩) | fail)
    have E1 := Aside.mk (C1.it.later K2.it (fun x => x))
    have E2 := Aside.mk (C2.it.later K2.it (fun x => x))
    have E2lt := Aside.mk E2.it.lt
    clear d0 d1
    have d1 : w2.cell? ⟨w.heap.size, 1, none⟩ = some (.slice (some ⟨g, 0, none⟩) L.length c) := by rw [E1.it.cell]; rfl
    have hb := (K1.it.trans K2.it).block g (World.block_lt_of_cell? w _ x0) (fun x => x)
    have x0 : w2.cell? ⟨g, j * 4, none⟩ = some (.int .i64 x.k) := by rw [World.cell?_of_block (w := w) hb]; exact x0
    have x1 : w2.cell? ⟨g, j * 4 + 1, none⟩ = some (.int .i64 x.t) := by rw [World.cell?_of_block (w := w) hb]; exact x1
    have x2 : w2.cell? ⟨g, j * 4 + 2, none⟩ = some (.int .i64 x.w) := by rw [World.cell?_of_block (w := w) hb]; exact x2
    have x3 : w2.cell? ⟨g, j * 4 + 3, none⟩ = some (.int .i64 x.u) := by rw [World.cell?_of_block (w := w) hb]; exact x3
    have hj1 : (j : Int) < L.length := by omega
    have KX : Aside (Keeps Nowhere w2 (w2.alloc (.cells #[.int .i64 x.k, .int .i64 x.t, .int .i64 x.w, .int .i64 x.u] 102))) := ⟨(Keeps.refl _ _).alloc _⟩
    have CX : Aside (Cells (w2.alloc (.cells #[.int .i64 x.k, .int .i64 x.t, .int .i64 x.w, .int .i64 x.u] 102)) w2.heap.size 102 (x4 x)) := ⟨Cells.new w2 _ _⟩
    go_upto_region 5 with fail
    clear x0 x1 x2 x3 hb d1 hj ht he hf
    generalize w2.alloc (.cells #[.int .i64 x.k, .int .i64 x.t, .int .i64 x.w, .int .i64 x.u] 102) = w3 at KX CX ⊢
    have F1 := Aside.mk (E1.it.later KX.it (fun x => x))
    have F2 := Aside.mk (E2.it.later KX.it (fun x => x))
    have K3 := Aside.mk ((K1.it.trans K2.it).trans KX.it)
    have X2 : Aside (w.heap.size + 1 < w2.heap.size) := E2lt
    generalize w2.heap.size = xb at CX X2 ⊢
    clear E1 E2 E2lt KX K2
    have d0 : w3.cell? ⟨w.heap.size, 0, none⟩ = some (.int .i64 R) := by rw [F1.it.cell]; rfl
    have d1 : w3.cell? ⟨w.heap.size, 1, none⟩ = some (.slice (some ⟨g, 0, none⟩) L.length c) := by rw [F1.it.cell]; rfl
    have WO := Aside.mk (dwithout (H.it.quiet K3.it) R hjl hmax)
    have X3 := Aside.mk CX.it.lt
    have hne1 : xb ≠ w.heap.size := by have := X2.it; omega
    have hne2 : xb ≠ w.heap.size + 1 := by have := X2.it; omega
    go_upto_region 6 with (first
      | (go_at_call 79; refine WO.it.mono ?_; clear WO; rintro e w4 ⟨qa, qn, qc, rfl, O4, K4⟩
         have G1 := Aside.mk (F1.it.later K4.it (fun x => x))
         have z0 : w4.cell? ⟨w.heap.size, 0, none⟩ = some (.int .i64 R) := (by rw [G1.it.cell]; rfl)
         have z1 : w4.cell? ⟨w.heap.size, 1, none⟩ = some (.slice (some ⟨g, 0, none⟩) L.length c) := (by rw [G1.it.cell]; rfl)
         have h0 := G1.it.frozen 0
         have h1 := G1.it.frozen 1)
      | fail)
    have G2 := Aside.mk (F2.it.later K4.it (fun x => x))
    have GX := Aside.mk (CX.it.later K4.it (fun x => x))
    have M1 : Aside (Cells ((w4.setCell ⟨w.heap.size, 0, none⟩ (.int .i64 R)).setCell ⟨w.heap.size, 1, none⟩ (.slice qa qn qc)) w.heap.size 31 [.int .i64 R, .slice qa qn qc]) := ⟨(G1.it.setCell 0 (.int .i64 R)).setCell 1 (.slice qa qn qc)⟩
    have M2 := Aside.mk ((G2.it.setOther ⟨w.heap.size, 0, none⟩ (.int .i64 R) (by simp)).setOther ⟨w.heap.size, 1, none⟩ (.slice qa qn qc) (by simp))
    have MX := Aside.mk ((GX.it.setOther ⟨w.heap.size, 0, none⟩ (.int .i64 R) hne1).setOther ⟨w.heap.size, 1, none⟩ (.slice qa qn qc) hne1)
    have KM : Aside (Keeps (fun x => x = w.heap.size) w4 ((w4.setCell ⟨w.heap.size, 0, none⟩ (.int .i64 R)).setCell ⟨w.heap.size, 1, none⟩ (.slice qa qn qc))) := ⟨((Keeps.refl (fun x => x = w.heap.size) w4).setCell ⟨w.heap.size, 0, none⟩ _ (fun _ => rfl)).setCell ⟨w.heap.size, 1, none⟩ _ (fun _ => rfl)⟩
    clear z0 z1 h0 h1 d0 d1
    generalize (w4.setCell ⟨w.heap.size, 0, none⟩ (.int .i64 R)).setCell ⟨w.heap.size, 1, none⟩ (.slice qa qn qc) = w5 at M1 M2 MX KM ⊢
    have O5 := Aside.mk (owns_later O4.it KM.it (fun b hb e => by have h1 := owns_base O4.it b hb; have h2 := X2.it; have h3 := X3.it; omega))
    have K5 : Aside (Keeps Nowhere w w5) := ⟨(K3.it.trans K4.it).next KM.it (fun x e hlt => by omega)⟩
    have KS := K3.it.size
    have m3 : w5.cell? ⟨xb, 3, none⟩ = some (.int .i64 x.u) := by rw [MX.it.cell]; rfl
    have m0 : w5.cell? ⟨w.heap.size, 0, none⟩ = some (.int .i64 R) := by rw [M1.it.cell]; rfl
    have m1 : w5.cell? ⟨w.heap.size, 1, none⟩ = some (.slice qa qn qc) := by rw [M1.it.cell]; rfl
    have RX := Aside.mk (owns_rdN (own := own) O5.it rfl KS)
    by_cases hu : now < x.u
    · have hu' : ¬ x.u ≤ now := by omega
      go_upto_region 8 with fail
      clear m0 m1 m3
      have el : (L.eraseIdx j).length = L.length - 1 := List.length_eraseIdx_of_lt hjl
      have FI := Aside.mk (fun W (hk : Keeps Nowhere w5 W) => dfirst (RX.it.quiet hk) R x (by omega))
      have S0 : Gs w.heap.size xb R (.slice qa qn qc) x w5.drew := gs_of (M1.it.later (S := Nowhere) (Keeps.refl _ _).drew (fun x => x)) (MX.it.later (S := Nowhere) (Keeps.refl _ _).drew (fun x => x))
      have FD := Aside.mk (FI.it w5.drew (Keeps.refl _ _).drew)
      clear FI
      go_region_held_law (fun w' => (w'.cell? ⟨w.heap.size, 0, none⟩ = some (.int .i64 R) ∧ w'.cell? ⟨w.heap.size, 1, none⟩ = some (.slice qa qn qc)) ∧ w'.cell? ⟨xb, 0, none⟩ = some (.int .i64 x.k) ∧ w'.cell? ⟨xb, 1, none⟩ = some (.int .i64 x.t) ∧ w'.cell? ⟨xb, 2, none⟩ = some (.int .i64 x.w) ∧ w'.cell? ⟨xb, 3, none⟩ = some (.int .i64 x.u)) (first | exact S0 | exact S6 | exact S7) (first
        | (go_at_call 80; refine FD.it.mono ?_; clear FD; rintro e w6 ⟨ra, rn, rc, rfl, O6, K6⟩
           have K6' := Aside.mk ((Keeps.refl Nowhere w5).drew.trans K6.it)
           have N1 := Aside.mk (M1.it.later K6'.it (fun x => x))
           have N2 := Aside.mk (M2.it.later K6'.it (fun x => x))
           have NX := Aside.mk (MX.it.later K6'.it (fun x => x))
           have S6 : Gs w.heap.size xb R (.slice qa qn qc) x w6 := gs_of N1.it NX.it
           have z0 : w6.cell? ⟨w.heap.size + 1, 0, none⟩ = some (.int .i64 0) := (by rw [N2.it.cell]; rfl)
           have z1 : w6.cell? ⟨w.heap.size + 1, 1, none⟩ = some (.slice none 0 0) := (by rw [N2.it.cell]; rfl)
           have h0 := N2.it.frozen 0
           have h1 := N2.it.frozen 1
           have S7 : Gs w.heap.size xb R (.slice qa qn qc) x ((w6.setCell ⟨w.heap.size + 1, 0, none⟩ (.int .i64 R)).setCell ⟨w.heap.size + 1, 1, none⟩ (.slice ra rn rc)) := gs_of ((N1.it.setOther _ _ (by simp)).setOther _ _ (by simp)) ((NX.it.setOther _ _ hne2).setOther _ _ hne2))
        | fail)
      go_wp2
      obtain ⟨u0, u1, KF, KR⟩ := res28 w N2.it (Nat.le_succ _) (K5.it.trans K6'.it) R (.slice ra rn rc)
      refine bodyPost_ret (v := .tuple #[cch R (.slice ra rn rc), .int .i64 x.t, .bool true]) (by simp [results, Tryd.f49, go_sem, u0, u1]) rfl ?_
      obtain ⟨t1, t2, t3⟩ := GG.it hu
      rw [t1, t2, t3, ← HE.it]
      refine ⟨ra, rn, rc, rfl, ⟨?_⟩, KF⟩
      have hs5 : w5.drew.heap.size = w5.heap.size := rfl
      have hsz := K4.it.size
      have hsm := KM.it.size
      refine owns_rdN (owns_later O6.it KR.it (fun b hb e => ?_)) rfl (by rw [hs5]; omega)
      have h1 := owns_base O6.it b hb
      have h2 := X2.it
      have h3 := X3.it
      omega
    · have hu' : x.u ≤ now := by omega
      have z0 : w5.cell? ⟨w.heap.size + 1, 0, none⟩ = some (.int .i64 0) := by rw [M2.it.cell]; rfl
      have z1 : w5.cell? ⟨w.heap.size + 1, 1, none⟩ = some (.slice none 0 0) := by rw [M2.it.cell]; rfl
      have h0 := M2.it.frozen 0
      have h1 := M2.it.frozen 1
      go_wp2_with fail
      obtain ⟨u0, u1, KF, KR⟩ := res28 w M2.it (Nat.le_succ _) K5.it R (.slice qa qn qc)
      refine bodyPost_ret (v := .tuple #[cch R (.slice qa qn qc), .int .i64 0, .bool false]) (by simp [results, Tryd.f49, go_sem, u0, u1]) rfl ?_
      obtain ⟨t1, t2, t3⟩ := GO.it hu'
      rw [t1, t2, t3, ← HE.it]
      refine ⟨qa, qn, qc, rfl, ⟨?_⟩, KF⟩
      refine owns_rdN (owns_later O5.it KR.it (fun b hb e => ?_)) rfl KS
      have h1 := owns_base O5.it b hb
      have h2 := X2.it
      have h3 := X3.it
      omega
end Go.Proofs.YtcmgmhdlokcgbaaDoor
