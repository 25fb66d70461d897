import Derived.Test.YtcmgmhdlokcgbaaDoorLuT
import Derived.Deep.RegionHeldLaw
/-
  culvertref28: Get
-/
namespace Go.Proofs.YtcmgmhdlokcgbaaDoor
open Go.RowKit Lulnn

variable {w w' w0 W : World} {own own' : Nat → Nat} {i c o j b q n cb xb rb : Nat} {room R k now : Int} {L M : List Rx} {I : Nat → Prop} {A : Nat → Addr} {x y : Rx} {z : Oz} {v va vb : Value} {ks ms : List Int}

/-- what Get's last row reads: its two boxes -/
def Gs (cb xb : Nat) (R : Int) (v : Value) (x : Rx) (W : World) : Prop := (W.cell? ⟨cb, 0, none⟩ = some (.int .i64 R) ∧ W.cell? ⟨cb, 1, none⟩ = some v) ∧ W.cell? ⟨xb, 0, none⟩ = some (.int .i64 x.k) ∧ W.cell? ⟨xb, 1, none⟩ = some (.int .i64 x.t) ∧ W.cell? ⟨xb, 2, none⟩ = some (.int .i64 x.w) ∧ W.cell? ⟨xb, 3, none⟩ = some (.int .i64 x.u)
theorem gs_of (h1 : Cells W cb 31 [.int .i64 R, v]) (h2 : Cells W xb 102 (x4 x)) : Gs cb xb R v x W := ⟨⟨by rw [h1.cell]; rfl, by rw [h1.cell]; rfl⟩, by rw [h2.cell]; rfl, by rw [h2.cell]; rfl, by rw [h2.cell]; rfl, by rw [h2.cell]; rfl⟩
set_option maxRecDepth 20000 in
set_option maxHeartbeats 4000000 in
theorem dget28 (h : RdX own w v L) (R k now : Int) (hmax : L.length * 32 ≤ 140737488355328) : Calls Tryd.prog 49 #[cch R v, .int .i64 k, .int .i64 now] w fun e w' => ∃ qa qn qc, e = .returned (.tuple #[cch R (.slice qa qn qc), .int .i64 (gotT L k now), .bool (gotB L k now)]) ∧ Aside (RdX (give own w.heap.size 9) w' (.slice qa qn qc) (getL L k now)) ∧ Aside (Keeps Nowhere w w') := by
  have H := Aside.mk h
  obtain ⟨a, c, rfl, hlc, hcm, _⟩ := h.sh
  clear h
  have mx : maxLen ≤ 9223372036854775807 := by decide
  obtain ⟨W1, hW1⟩ : ∃ W1, (w.alloc (.cells #[.int .i64 R, .slice a L.length c] 31)).alloc (.cells #[.int .i64 0, .slice none 0 0] 31) = W1 := ⟨_, rfl⟩
  obtain ⟨K1, C1, C2⟩ := boxes28 w R (.slice a L.length c) W1 hW1
  have d0 : W1.cell? ⟨w.heap.size, 0, none⟩ = some (.int .i64 R) := by rw [C1.it.cell]; rfl
  have d1 : W1.cell? ⟨w.heap.size, 1, none⟩ = some (.slice a L.length c) := by rw [C1.it.cell]; rfl
  have DA := Aside.mk (dat (H.it.quiet K1.it) R k)
  cases hf : findL L k with
  | none =>
    rw [at_none hf] at DA
    have GN : Aside (gotT L k now = 0 ∧ gotB L k now = false ∧ getL L k now = L) := ⟨by unfold gotT gotB getL; rw [hf]; exact ⟨rfl, rfl, rfl⟩⟩
    go_enter Tryd.func49, Tryd.ntmps49
    go_upto_region 1 with fail
    clear hW1
    go_upto_region 2 with (first | (go_at_call 50; refine DA.it.mono ?_; clear DA; rintro e w2 ⟨rfl, K2⟩) | fail)
    have E1 := Aside.mk (C1.it.later K2.it (fun x => x))
    have E2 := Aside.mk (C2.it.later K2.it (fun x => x))
    clear d0 d1
    have d0 : w2.cell? ⟨w.heap.size, 0, none⟩ = some (.int .i64 R) := by rw [E1.it.cell]; rfl
    have d1 : w2.cell? ⟨w.heap.size, 1, none⟩ = some (.slice a L.length c) := by rw [E1.it.cell]; rfl
    have z0 : w2.cell? ⟨w.heap.size + 1, 0, none⟩ = some (.int .i64 0) := by rw [E2.it.cell]; rfl
    have z1 : w2.cell? ⟨w.heap.size + 1, 1, none⟩ = some (.slice none 0 0) := by rw [E2.it.cell]; rfl
    have h0 := E2.it.frozen 0
    have h1 := E2.it.frozen 1
    go_wp2_with fail
    obtain ⟨u0, u1, KF, _⟩ := res28 w E2.it (Nat.le_succ _) (K1.it.trans K2.it) R (.slice a L.length c)
    refine bodyPost_ret (v := .tuple #[cch R (.slice a L.length c), .int .i64 0, .bool false]) (by simp [results, Tryd.f49, go_sem, u0, u1]) rfl ?_
    obtain ⟨t1, t2, t3⟩ := GN.it
    rw [t1, t2, t3]
    exact ⟨_, _, _, rfl, ⟨H.it.sn (I := fun _ => False) (Sn.quiet KF.it 9) (fun x => x)⟩, KF⟩
  | some x =>
    obtain ⟨j, hj, ht, he, hjl⟩ := find_split hf
    rw [atI_drop hj ht (findL_some hf).2] at DA
    have HE := Aside.mk he
    have GG : Aside (now < x.u → gotT L k now = x.t ∧ gotB L k now = true ∧ getL L k now = x :: dropL L k) := ⟨fun hu => by unfold gotT gotB getL; rw [hf]; simp only [if_pos hu, decide_eq_true hu, and_self]⟩
    have GO : Aside (x.u ≤ now → gotT L k now = 0 ∧ gotB L k now = false ∧ getL L k now = dropL L k) := ⟨fun hu => by unfold gotT gotB getL; rw [hf]; simp only [if_neg (Int.not_lt.2 hu), decide_eq_false (Int.not_lt.2 hu), and_self]⟩
    obtain ⟨g, c', hv, _, x0, x1, x2, x3⟩ := H.it.at_ j x hj
    injection hv with hv1 hv2 hv3
    subst hv1 hv3
    go_enter Tryd.func49, Tryd.ntmps49
    go_upto_region 1 with fail
    clear hW1
    go_upto_region 2 with (first | (go_at_call 50; refine DA.it.mono ?_; clear DA; rintro e w2 ⟨rfl, K2⟩) | fail)
    have E1 := Aside.mk (C1.it.later K2.it (fun x => x))
    have E2 := Aside.mk (C2.it.later K2.it (fun x => x))
    have E2lt := Aside.mk E2.it.lt
    clear d0 d1
    have d1 : w2.cell? ⟨w.heap.size, 1, none⟩ = some (.slice (some ⟨g, 0, none⟩) L.length c) := by rw [E1.it.cell]; rfl
    have hb := (K1.it.trans K2.it).block g (World.block_lt_of_cell? w _ x0) (fun x => x)
    have x0 : w2.cell? ⟨g, j * 4, none⟩ = some (.int .i64 x.k) := by rw [World.cell?_of_block (w := w) hb]; exact x0
    have x1 : w2.cell? ⟨g, j * 4 + 1, none⟩ = some (.int .i64 x.t) := by rw [World.cell?_of_block (w := w) hb]; exact x1
    have x2 : w2.cell? ⟨g, j * 4 + 2, none⟩ = some (.int .i64 x.w) := by rw [World.cell?_of_block (w := w) hb]; exact x2
    have x3 : w2.cell? ⟨g, j * 4 + 3, none⟩ = some (.int .i64 x.u) := by rw [World.cell?_of_block (w := w) hb]; exact x3
    have hj1 : (j : Int) < L.length := by omega
    have KX : Aside (Keeps Nowhere w2 (w2.alloc (.cells #[.int .i64 x.k, .int .i64 x.t, .int .i64 x.w, .int .i64 x.u] 102))) := ⟨(Keeps.refl _ _).alloc _⟩
    have CX : Aside (Cells (w2.alloc (.cells #[.int .i64 x.k, .int .i64 x.t, .int .i64 x.w, .int .i64 x.u] 102)) w2.heap.size 102 (x4 x)) := ⟨Cells.new w2 _ _⟩
    go_upto_region 5 with fail
    clear x0 x1 x2 x3 hb d1 hj ht he hf
    generalize w2.alloc (.cells #[.int .i64 x.k, .int .i64 x.t, .int .i64 x.w, .int .i64 x.u] 102) = w3 at KX CX ⊢
    have F1 := Aside.mk (E1.it.later KX.it (fun x => x))
    have F2 := Aside.mk (E2.it.later KX.it (fun x => x))
    have K3 := Aside.mk ((K1.it.trans K2.it).trans KX.it)
    have X2 : Aside (w.heap.size + 1 < w2.heap.size) := E2lt
    generalize w2.heap.size = xb at CX X2 ⊢
    clear E1 E2 E2lt KX K2
    have d0 : w3.cell? ⟨w.heap.size, 0, none⟩ = some (.int .i64 R) := by rw [F1.it.cell]; rfl
    have d1 : w3.cell? ⟨w.heap.size, 1, none⟩ = some (.slice (some ⟨g, 0, none⟩) L.length c) := by rw [F1.it.cell]; rfl
    have WO := Aside.mk (dwithout (H.it.quiet K3.it) R hjl hmax)
    have X3 := Aside.mk CX.it.lt
    have hne1 : xb ≠ w.heap.size := by have := X2.it; omega
    have hne2 : xb ≠ w.heap.size + 1 := by have := X2.it; omega
    go_upto_region 6 with (first
      | (go_at_call 79; refine WO.it.mono ?_; clear WO; rintro e w4 ⟨qa, qn, qc, rfl, O4, K4⟩
         have G1 := Aside.mk (F1.it.later K4.it (fun x => x))
         have z0 : w4.cell? ⟨w.heap.size, 0, none⟩ = some (.int .i64 R) := (by rw [G1.it.cell]; rfl)
         have z1 : w4.cell? ⟨w.heap.size, 1, none⟩ = some (.slice (some ⟨g, 0, none⟩) L.length c) := (by rw [G1.it.cell]; rfl)
         have h0 := G1.it.frozen 0
         have h1 := G1.it.frozen 1)
      | fail)
    have G2 := Aside.mk (F2.it.later K4.it (fun x => x))
    have GX := Aside.mk (CX.it.later K4.it (fun x => x))
    have M1 : Aside (Cells ((w4.setCell ⟨w.heap.size, 0, none⟩ (.int .i64 R)).setCell ⟨w.heap.size, 1, none⟩ (.slice qa qn qc)) w.heap.size 31 [.int .i64 R, .slice qa qn qc]) := ⟨(G1.it.setCell 0 (.int .i64 R)).setCell 1 (.slice qa qn qc)⟩
    have M2 := Aside.mk ((G2.it.setOther ⟨w.heap.size, 0, none⟩ (.int .i64 R) (by simp)).setOther ⟨w.heap.size, 1, none⟩ (.slice qa qn qc) (by simp))
    have MX := Aside.mk ((GX.it.setOther ⟨w.heap.size, 0, none⟩ (.int .i64 R) hne1).setOther ⟨w.heap.size, 1, none⟩ (.slice qa qn qc) hne1)
    have KM : Aside (Keeps (fun x => x = w.heap.size) w4 ((w4.setCell ⟨w.heap.size, 0, none⟩ (.int .i64 R)).setCell ⟨w.heap.size, 1, none⟩ (.slice qa qn qc))) := ⟨((Keeps.refl (fun x => x = w.heap.size) w4).setCell ⟨w.heap.size, 0, none⟩ _ (fun _ => rfl)).setCell ⟨w.heap.size, 1, none⟩ _ (fun _ => rfl)⟩
    clear z0 z1 h0 h1 d0 d1
    generalize (w4.setCell ⟨w.heap.size, 0, none⟩ (.int .i64 R)).setCell ⟨w.heap.size, 1, none⟩ (.slice qa qn qc) = w5 at M1 M2 MX KM ⊢
    have O5 := Aside.mk (owns_later O4.it KM.it (fun b hb e => by have h1 := owns_base O4.it b hb; have h2 := X2.it; have h3 := X3.it; omega))
    have K5 : Aside (Keeps Nowhere w w5) := ⟨(K3.it.trans K4.it).next KM.it (fun x e hlt => by omega)⟩
    have KS := K3.it.size
    have m3 : w5.cell? ⟨xb, 3, none⟩ = some (.int .i64 x.u) := by rw [MX.it.cell]; rfl
    have m0 : w5.cell? ⟨w.heap.size, 0, none⟩ = some (.int .i64 R) := by rw [M1.it.cell]; rfl
    have m1 : w5.cell? ⟨w.heap.size, 1, none⟩ = some (.slice qa qn qc) := by rw [M1.it.cell]; rfl
    have RX := Aside.mk (owns_rdN (own := own) O5.it rfl KS)
    by_cases hu : now < x.u
    · have hu' : ¬ x.u ≤ now := by omega
      go_upto_region 8 with fail
      clear m0 m1 m3
      have el : (L.eraseIdx j).length = L.length - 1 := List.length_eraseIdx_of_lt hjl
      have FI := Aside.mk (fun W (hk : Keeps Nowhere w5 W) => dfirst (RX.it.quiet hk) R x (by omega))
      have S0 : Gs w.heap.size xb R (.slice qa qn qc) x w5.drew := gs_of (M1.it.later (S := Nowhere) (Keeps.refl _ _).drew (fun x => x)) (MX.it.later (S := Nowhere) (Keeps.refl _ _).drew (fun x => x))
      have FD := Aside.mk (FI.it w5.drew (Keeps.refl _ _).drew)
      clear FI
      go_region_held_law (fun w' => (w'.cell? ⟨w.heap.size, 0, none⟩ = some (.int .i64 R) ∧ w'.cell? ⟨w.heap.size, 1, none⟩ = some (.slice qa qn qc)) ∧ w'.cell? ⟨xb, 0, none⟩ = some (.int .i64 x.k) ∧ w'.cell? ⟨xb, 1, none⟩ = some (.int .i64 x.t) ∧ w'.cell? ⟨xb, 2, none⟩ = some (.int .i64 x.w) ∧ w'.cell? ⟨xb, 3, none⟩ = some (.int .i64 x.u)) (first | exact S0 | exact S6 | exact S7) (first
        | (go_at_call 80; refine FD.it.mono ?_; clear FD; rintro e w6 ⟨ra, rn, rc, rfl, O6, K6⟩
           have K6' := Aside.mk ((Keeps.refl Nowhere w5).drew.trans K6.it)
           have N1 := Aside.mk (M1.it.later K6'.it (fun x => x))
           have N2 := Aside.mk (M2.it.later K6'.it (fun x => x))
           have NX := Aside.mk (MX.it.later K6'.it (fun x => x))
           have S6 : Gs w.heap.size xb R (.slice qa qn qc) x w6 := gs_of N1.it NX.it
           have z0 : w6.cell? ⟨w.heap.size + 1, 0, none⟩ = some (.int .i64 0) := (by rw [N2.it.cell]; rfl)
           have z1 : w6.cell? ⟨w.heap.size + 1, 1, none⟩ = some (.slice none 0 0) := (by rw [N2.it.cell]; rfl)
           have h0 := N2.it.frozen 0
           have h1 := N2.it.frozen 1
           have S7 : Gs w.heap.size xb R (.slice qa qn qc) x ((w6.setCell ⟨w.heap.size + 1, 0, none⟩ (.int .i64 R)).setCell ⟨w.heap.size + 1, 1, none⟩ (.slice ra rn rc)) := gs_of ((N1.it.setOther _ _ (by simp)).setOther _ _ (by simp)) ((NX.it.setOther _ _ hne2).setOther _ _ hne2))
        | fail)
      go_wp2
      obtain ⟨u0, u1, KF, KR⟩ := res28 w N2.it (Nat.le_succ _) (K5.it.trans K6'.it) R (.slice ra rn rc)
      refine bodyPost_ret (v := .tuple #[cch R (.slice ra rn rc), .int .i64 x.t, .bool true]) (by simp [results, Tryd.f49, go_sem, u0, u1]) rfl ?_
      obtain ⟨t1, t2, t3⟩ := GG.it hu
      rw [t1, t2, t3, ← HE.it]
      refine ⟨ra, rn, rc, rfl, ⟨?_⟩, KF⟩
      have hs5 : w5.drew.heap.size = w5.heap.size := rfl
      have hsz := K4.it.size
      have hsm := KM.it.size
      refine owns_rdN (owns_later O6.it KR.it (fun b hb e => ?_)) rfl (by rw [hs5]; omega)
      have h1 := owns_base O6.it b hb
      have h2 := X2.it
      have h3 := X3.it
      omega
    · have hu' : x.u ≤ now := by omega
      have z0 : w5.cell? ⟨w.heap.size + 1, 0, none⟩ = some (.int .i64 0) := by rw [M2.it.cell]; rfl
      have z1 : w5.cell? ⟨w.heap.size + 1, 1, none⟩ = some (.slice none 0 0) := by rw [M2.it.cell]; rfl
      have h0 := M2.it.frozen 0
      have h1 := M2.it.frozen 1
      go_wp2_with fail
      obtain ⟨u0, u1, KF, KR⟩ := res28 w M2.it (Nat.le_succ _) K5.it R (.slice qa qn qc)
      refine bodyPost_ret (v := .tuple #[cch R (.slice qa qn qc), .int .i64 0, .bool false]) (by simp [results, Tryd.f49, go_sem, u0, u1]) rfl ?_
      obtain ⟨t1, t2, t3⟩ := GO.it hu'
      rw [t1, t2, t3, ← HE.it]
      refine ⟨qa, qn, qc, rfl, ⟨?_⟩, KF⟩
      refine owns_rdN (owns_later O5.it KR.it (fun b hb e => ?_)) rfl KS
      have h1 := owns_base O5.it b hb
      have h2 := X2.it
      have h3 := X3.it
      omega
end Go.Proofs.YtcmgmhdlokcgbaaDoor

/-
  culvertref28: Expire
-/
namespace Go.Proofs.YtcmgmhdlokcgbaaDoor
open Go.RowKit Lulnn

variable {w w' w0 W : World} {own own' : Nat → Nat} {i c o j b q n cb xb rb : Nat} {room R k now : Int} {L M : List Rx} {I : Nat → Prop} {A : Nat → Addr} {x y : Rx} {z : Oz} {v va vb : Value} {ks ms : List Int}

theorem owns_unlike {base base' k k' m n : Nat} {e e' : TypeId} {xs ys : List Value} (h : w.ownsRow base e k va m xs) (h' : w.ownsRow base' e' k' vb n ys) (hne : e ≠ e') : ∀ b, va.ownBlock = some b → ¬ vb.ownBlock = some b := by
  intro b hb hb'
  rcases h.2 with ⟨rfl, _⟩ | ⟨g, cap, cur, rfl, _, hg, _⟩
  · cases hb
  · rcases h'.2 with ⟨rfl, _⟩ | ⟨g', cap', cur', rfl, _, hg', _⟩
    · cases hb'
    · simp only [Value.ownBlock, Option.some.injEq] at hb hb'
      subst hb hb'
      rw [hg] at hg'
      injection hg' with hg'
      injection hg' with _ e1
      exact hne e1
theorem owns_len1 {base e k n l c : Nat} {a : Option Addr} {xs : List Value} (h : w.ownsRow base e k (.slice a l c) n xs) : l = n := by
  rcases h.2 with ⟨h1, h0⟩ | ⟨g, cap, cur, h1, _⟩
  · injection h1 with _ h2 _; omega
  · injection h1
/-- what Expire has gathered of the first j rows -/
structure Eg (W1 wr : World) (L : List Rx) (now : Int) (j : Nat) (sv gv : Value) : Prop where
  st : wr.ownsRow W1.heap.size 102 4 sv (stayL (L.take j) now).length (f4 (stayL (L.take j) now))
  go : wr.ownsRow W1.heap.size 3 1 gv (oldL (L.take j) now).length (rk (oldL (L.take j) now))
  kp : Keeps Nowhere W1 wr
theorem stay_le (now : Int) (j : Nat) : (stayL (L.take j) now).length ≤ j := by
  have h1 : (stayL (L.take j) now).length ≤ (L.take j).length := List.length_filter_le _ _
  rw [List.length_take] at h1
  omega
set_option maxRecDepth 20000 in
set_option maxHeartbeats 4000000 in
theorem dexpire28 (h : RdX own w v L) (R now : Int) (hmax : L.length * 32 ≤ 140737488355328) : Calls Tryd.prog 52 #[cch R v, .int .i64 now] w fun e w' => ∃ qa qn qc pa pn pc, e = .returned (.tuple #[cch R (.slice qa qn qc), .slice pa pn pc]) ∧ Aside (RdX (give own w.heap.size 9) w' (.slice qa qn qc) (stayL L now)) ∧ Aside (OwR (give own w.heap.size 9) 9 w' 3 1 (.slice pa pn pc) (oldL L now).length (rk (oldL L now))) ∧ Aside (Keeps Nowhere w w') := by
  have H := Aside.mk h
  obtain ⟨a, c, rfl, hlc, hcm, _⟩ := h.sh
  clear h
  have mx : maxLen ≤ 9223372036854775807 := by decide
  obtain ⟨W1, hW1⟩ : ∃ W1, (w.alloc (.cells #[.int .i64 R, .slice a L.length c] 31)).alloc (.cells #[.int .i64 0, .slice none 0 0] 31) = W1 := ⟨_, rfl⟩
  obtain ⟨K1, C1, C2⟩ := boxes28 w R (.slice a L.length c) W1 hW1
  have C1lt := Aside.mk C1.it.lt
  have C2lt := Aside.mk C2.it.lt
  obtain ⟨n, hn⟩ : ∃ n, L.length = n := ⟨_, rfl⟩
  have HN := Aside.mk hn
  rw [hn] at hlc hmax C1 hW1 ⊢
  clear hn
  go_enter Tryd.func52, Tryd.ntmps52
  go_upto_region 1 with fail
  clear hW1
  go_upto_region 4 with fail
  go_loopw [6, 7, 8] (fun sv gv jv wr => ∃ (j : Nat) (sa : Option Addr) (sn sc : Nat) (ga : Option Addr) (gn gc : Nat), sv = .slice sa sn sc ∧ gv = .slice ga gn gc ∧ jv = .int .i64 j ∧ j ≤ n ∧ Aside (Eg W1 wr L now j (.slice sa sn sc) (.slice ga gn gc))) (fun _ _ jv _ => n - natI jv)
  case atStart => exact ⟨0, none, 0, 0, none, 0, 0, rfl, rfl, rfl, Nat.zero_le _, ⟨World.ownsRow_nil _ _ _ _, World.ownsRow_nil _ _ _ _, Keeps.refl _ _⟩⟩
  case round =>
    obtain ⟨j, sa, sn, sc, ga, gn, gc, rfl, rfl, rfl, hj, X⟩ := hrel
    have D1 := Aside.mk (C1.it.later X.it.kp (fun x => x))
    have d1 : wr.cell? ⟨w.heap.size, 1, none⟩ = some (.slice a n c) := by rw [D1.it.cell]; rfl
    rcases Nat.eq_or_lt_of_le hj with rfl | hlt
    · have D2 := Aside.mk (C2.it.later X.it.kp (fun x => x))
      have f1 := D1.it.frozen 1
      go_upto_region 10 with fail
      have F1 := Aside.mk (D1.it.setCell 1 (.slice sa sn sc))
      have F2 := Aside.mk (D2.it.setOther ⟨w.heap.size, 1, none⟩ (.slice sa sn sc) (by simp))
      have KF : Aside (Keeps (fun x => x = w.heap.size) wr (wr.setCell ⟨w.heap.size, 1, none⟩ (.slice sa sn sc))) := ⟨(Keeps.refl _ _).setCell _ _ (fun _ => rfl)⟩
      clear d1 f1
      generalize wr.setCell ⟨w.heap.size, 1, none⟩ (.slice sa sn sc) = w7 at F1 F2 KF ⊢
      have y0 : w7.cell? ⟨w.heap.size, 0, none⟩ = some (.int .i64 R) := by rw [F1.it.cell]; rfl
      have y1 : w7.cell? ⟨w.heap.size, 1, none⟩ = some (.slice sa sn sc) := by rw [F1.it.cell]; rfl
      have z0 : w7.cell? ⟨w.heap.size + 1, 0, none⟩ = some (.int .i64 0) := by rw [F2.it.cell]; rfl
      have z1 : w7.cell? ⟨w.heap.size + 1, 1, none⟩ = some (.slice none 0 0) := by rw [F2.it.cell]; rfl
      have h0 := F2.it.frozen 0
      have h1 := F2.it.frozen 1
      go_wp2_with fail
      have K7 : Keeps Nowhere w w7 := (K1.it.trans X.it.kp).next KF.it (fun x e hlt => by omega)
      obtain ⟨u0, u1, KG, KR⟩ := res28 w F2.it (Nat.le_succ _) K7 R (.slice sa sn sc)
      refine bodyPost_ret (v := .tuple #[cch R (.slice sa sn sc), .slice ga gn gc]) (by simp [results, Tryd.f52, go_sem, u0, u1]) rfl ?_
      have s1 := X.it.st
      have s2 := X.it.go
      rw [List.take_of_length_le (by rw [HN.it]; exact Nat.le_refl _)] at s1 s2
      have c1l := C1lt.it
      have c2l := C2lt.it
      refine ⟨_, _, _, _, _, _, rfl, ⟨?_⟩, ⟨?_⟩, KG⟩
      · refine owns_rdN (owns_later (owns_later s1 KF.it (fun b hb e => ?_)) KR.it (fun b hb e => ?_)) rfl K1.it.size
        · have := owns_base s1 b hb; omega
        · have := owns_base s1 b hb; omega
      · refine OwR.new (owns_base_le (owns_later (owns_later s2 KF.it (fun b hb e => ?_)) KR.it (fun b hb e => ?_)) K1.it.size)
        · have := owns_base s2 b hb; omega
        · have := owns_base s2 b hb; omega
    · have hlt' : (j : Int) < (n : Int) := by omega
      obtain ⟨y, hy⟩ : ∃ y, L[j]? = some y := ⟨_, List.getElem?_eq_getElem (by rw [HN.it]; exact hlt)⟩
      obtain ⟨g, c', hv, _, y0, y1, y2, y3⟩ := H.it.at_ j y hy
      injection hv with hv1 hv2 hv3
      subst hv1 hv3
      have hb := (K1.it.trans X.it.kp).block g (World.block_lt_of_cell? w _ y0) (fun x => x)
      have y0 : wr.cell? ⟨g, j * 4, none⟩ = some (.int .i64 y.k) := by rw [World.cell?_of_block (w := w) hb]; exact y0
      have y1 : wr.cell? ⟨g, j * 4 + 1, none⟩ = some (.int .i64 y.t) := by rw [World.cell?_of_block (w := w) hb]; exact y1
      have y2 : wr.cell? ⟨g, j * 4 + 2, none⟩ = some (.int .i64 y.w) := by rw [World.cell?_of_block (w := w) hb]; exact y2
      have y3 : wr.cell? ⟨g, j * 4 + 3, none⟩ = some (.int .i64 y.u) := by rw [World.cell?_of_block (w := w) hb]; exact y3
      have HY := Aside.mk hy
      have l1 := stay_le (L := L) now j
      have l2 := old_le (L := L) now j
      have sl := owns_len1 X.it.st
      have gl := owns_len1 X.it.go
      rw [← sl] at l1
      rw [← gl] at l2
      have OS : Aside (wr.ownsRow W1.heap.size 102 4 (.slice sa sn sc) sn (f4 (stayL (L.take j) now))) := ⟨by have r := X.it.st; rw [← sl] at r; exact r⟩
      have OG : Aside (wr.ownsRow W1.heap.size 3 1 (.slice ga gn gc) gn (rk (oldL (L.take j) now))) := ⟨by have r := X.it.go; rw [← gl] at r; exact r⟩
      have b1 : (sn + 1) * 32 ≤ 140737488355328 := by omega
      have b2 : sn + 1 ≤ maxLen := Nat.le_trans (show sn + 1 ≤ 140737488355328 by omega) (by decide)
      have b3 : (gn + 1) * 8 ≤ 140737488355328 := by omega
      have b4 : gn + 1 ≤ maxLen := Nat.le_trans (show gn + 1 ≤ 140737488355328 by omega) (by decide)
      have SS : Aside (stayL (L.take (j + 1)) now = stayL (L.take j) now ++ (if now < y.u then [y] else [])) := ⟨stay_snoc now hy⟩
      have GS : Aside (oldL (L.take (j + 1)) now = oldL (L.take j) now ++ (if now < y.u then [] else [y])) := ⟨old_snoc now hy⟩
      have SN := Aside.mk (And.intro sl gl)
      clear hy hb sl gl hv2
      by_cases hu : now < y.u
      · have hu' : ¬ y.u ≤ now := by omega
        rw [if_pos hu] at SS GS
        go_wp2_with (first
          | (at_builtin; refine wpList_appendR rfl _ _ 29 rfl 102 (.agg #[.int .i64 0, .int .i64 0, .int .i64 0, .int .i64 0]) 4 32 Tryd.underlying29 info4 rfl (by decide) wr ((Keeps.refl _ _).alloc _) W1.heap.size _ sn _ OS.it _ 1 (x4 y) (readsK_new wr 102 (x4 y)) (by simp [x4, Value.oneCell']) b1 b2 X.it.kp.size rfl rfl ?_
             intro v' w' o5 k5 b5
             obtain ⟨p1, p2, p3, hv'⟩ := owns_shapeK o5.it
             subst hv')
          | fail)
        go_roundw
        case rel =>
          refine ⟨j + 1, p1, p2, p3, ga, gn, gc, rfl, rfl, by go_num, hlt, ⟨?_, ?_, ?_⟩⟩
          · rw [SS.it, f4_append, f4_one, List.length_append, ← SN.it.1]
            exact o5.it
          · rw [GS.it, List.append_nil]
            refine owns_later X.it.go (((Keeps.refl Nowhere wr).alloc _).any.trans k5.it) (fun b hb e => owns_unlike X.it.st X.it.go (by decide) b e hb)
          · exact (X.it.kp.alloc _).next k5.it (fun x e hlt => by have := owns_base OS.it x e; omega)
        case measure => simp [natI]; omega
      · have hu' : y.u ≤ now := by omega
        rw [if_neg hu] at SS GS
        go_wp2_with (first
          | (at_builtin; refine wpList_appendR rfl _ _ 54 rfl 3 (.int .i64 0) 1 8 Tryd.underlying54 infoK rfl (by decide) wr ((Keeps.refl _ _).alloc _) W1.heap.size _ gn _ OG.it _ 1 [.int .i64 y.k] (readsK_new wr 3 [.int .i64 y.k]) rk_cells b3 b4 X.it.kp.size rfl rfl ?_
             intro v' w' o5 k5 b5
             obtain ⟨p1, p2, p3, hv'⟩ := owns_shapeK o5.it
             subst hv')
          | fail)
        go_roundw
        case rel =>
          refine ⟨j + 1, sa, sn, sc, p1, p2, p3, rfl, rfl, by go_num, hlt, ⟨?_, ?_, ?_⟩⟩
          · rw [SS.it, List.append_nil]
            refine owns_later X.it.st (((Keeps.refl Nowhere wr).alloc _).any.trans k5.it) (fun b hb e => owns_unlike X.it.st X.it.go (by decide) b hb e)
          · rw [GS.it, rk_append, rk_one, List.length_append, ← SN.it.2]
            exact o5.it
          · exact (X.it.kp.alloc _).next k5.it (fun x e hlt => by have := owns_base OG.it x e; omega)
        case measure => simp [natI]; omega
end Go.Proofs.YtcmgmhdlokcgbaaDoor

/-
  culvertref28: Put
-/
namespace Go.Proofs.YtcmgmhdlokcgbaaDoor
open Go.RowKit Lulnn

variable {w w' w0 W : World} {own own' : Nat → Nat} {i c o j b q n cb xb rb m : Nat} {room R k now : Int} {L M : List Rx} {I : Nat → Prop} {A : Nat → Addr} {x y : Rx} {z : Oz} {v va vb gv : Value} {ks ms : List Int}

abbrev xag (x : Rx) : Value := .agg #[.int .i64 x.k, .int .i64 x.t, .int .i64 x.w, .int .i64 x.u]
/-- three boxes above a world: the cache, the row, the result -/
theorem boxes3 (w : World) (R : Int) (v : Value) (x : Rx) (W1 : World) (hW1 : ((w.alloc (.cells #[.int .i64 R, v] 31)).alloc (.cells #[.int .i64 x.k, .int .i64 x.t, .int .i64 x.w, .int .i64 x.u] 102)).alloc (.cells #[.int .i64 0, .slice none 0 0] 31) = W1) :
    Aside (Keeps Nowhere w W1) ∧ Aside (Cells W1 w.heap.size 31 [.int .i64 R, v]) ∧ Aside (Cells W1 (w.heap.size + 1) 102 (x4 x)) ∧ Aside (Cells W1 (w.heap.size + 1 + 1) 31 [.int .i64 0, .slice none 0 0]) := by
  refine ⟨⟨by rw [← hW1]; exact (((Keeps.refl _ _).alloc _).alloc _).alloc _⟩, ⟨by rw [← hW1]; exact (Cells.new w _ _).later (S := Nowhere) (((Keeps.refl _ _).alloc _).alloc _) (fun x => x)⟩, ⟨?_⟩, ⟨?_⟩⟩
  · have h := Cells.new (w.alloc (.cells #[.int .i64 R, v] 31)) 102 (x4 x)
    rw [World.size_alloc] at h
    rw [← hW1]; exact h.later (S := Nowhere) ((Keeps.refl _ _).alloc _) (fun x => x)
  · have h := Cells.new ((w.alloc (.cells #[.int .i64 R, v] 31)).alloc (.cells (x4 x).toArray 102)) 31 [.int .i64 0, .slice none 0 0]
    rw [World.size_alloc, World.size_alloc] at h
    rw [← hW1]; exact h
/-- Put's world: the boxes, the rows, what went -/
structure Pg (own : Nat → Nat) (w wr : World) (R : Int) (x : Rx) (Lc Lg : List Rx) (va gv : Value) : Prop where
  bx : Cells wr w.heap.size 31 [.int .i64 R, va]
  xx : Cells wr (w.heap.size + 1) 102 (x4 x)
  rr : Cells wr (w.heap.size + 1 + 1) 31 [.int .i64 0, .slice none 0 0]
  rd : RdX (give own w.heap.size 9) wr va Lc
  go : wr.ownsRow (w.heap.size + 1 + 1 + 1) 3 1 gv Lg.length (rk Lg)
  kp : Keeps Nowhere w wr
variable {wr : World} {Lc Lg : List Rx}
theorem Pg.quiet (h : Pg own w wr R x Lc Lg va gv) (hk : Keeps Nowhere wr w') : Pg own w w' R x Lc Lg va gv := ⟨h.bx.later hk (fun x => x), h.xx.later hk (fun x => x), h.rr.later hk (fun x => x), h.rd.quiet hk, owns_later h.go hk (fun _ _ x => x), h.kp.trans hk⟩
theorem Pg.sz (h : Pg own w wr R x Lc Lg va gv) : w.heap.size + 1 + 1 < wr.heap.size := h.rr.lt
/-- the box takes other rows -/
theorem Pg.put {v2 : Value} {L2 : List Rx} (h : Pg own w wr R x Lc Lg va gv) (hr : RdX (give own w.heap.size 9) wr v2 L2) : Pg own w ((wr.setCell ⟨w.heap.size, 0, none⟩ (.int .i64 R)).setCell ⟨w.heap.size, 1, none⟩ v2) R x L2 Lg v2 gv := by
  have kk : Keeps (fun x => x = w.heap.size) wr ((wr.setCell ⟨w.heap.size, 0, none⟩ (.int .i64 R)).setCell ⟨w.heap.size, 1, none⟩ v2) := ((Keeps.refl (fun x => x = w.heap.size) wr).setCell ⟨w.heap.size, 0, none⟩ _ (fun _ => rfl)).setCell ⟨w.heap.size, 1, none⟩ _ (fun _ => rfl)
  refine ⟨(h.bx.setCell 0 (.int .i64 R)).setCell 1 v2, h.xx.later kk (by omega), h.rr.later kk (by omega), hr.later kk (fun b cur hc e => ?_), owns_later h.go kk (fun b hb e => ?_), h.kp.next kk (fun x e hlt => by omega)⟩
  · rw [e, h.bx] at hc
    simp at hc
  · have := owns_base h.go b hb
    omega
/-- one more has gone -/
theorem Pg.gone {gv2 : Value} {L2 : List Rx} (h : Pg own w wr R x Lc Lg va gv) (kk : Keeps (fun b => gv.ownBlock = some b) wr w') (ho : w'.ownsRow (w.heap.size + 1 + 1 + 1) 3 1 gv2 L2.length (rk L2)) : Pg own w w' R x Lc L2 va gv2 := by
  have hb := fun b (e : gv.ownBlock = some b) => owns_base h.go b e
  refine ⟨h.bx.later kk (fun e => by have := hb _ e; omega), h.xx.later kk (fun e => by have := hb _ e; omega), h.rr.later kk (fun e => by have := hb _ e; omega), h.rd.later kk (fun b cur hc e => ?_), ho, h.kp.next kk (fun x e hlt => by have := hb _ e; omega)⟩
  rcases h.go.2 with ⟨h1, _⟩ | ⟨g, cap, cur', h1, _, hg, _⟩
  · rw [h1] at e; cases e
  · rw [h1] at e
    simp only [Value.ownBlock, Option.some.injEq] at e
    rw [← e, hg] at hc
    simp at hc
theorem take_erase (M : List Rx) (m : Nat) (hm : m < M.length) : (M.take (m + 1)).eraseIdx m = M.take m := by
  have hl : (M.take m).length = m := by rw [List.length_take]; omega
  rw [List.take_add_one, List.getElem?_eq_getElem hm, Option.toList_some, List.eraseIdx_append_of_length_le (by omega), hl, Nat.sub_self, List.eraseIdx_cons_zero, List.append_nil]
set_option maxRecDepth 20000 in
set_option maxHeartbeats 1000000 in
theorem dput_bad (h : RdX own w v L) (R : Int) (x : Rx) (hb : x.w < 0 ∨ (0 ≤ x.w ∧ R < x.w)) : Calls Tryd.prog 48 #[cch R v, xag x] w fun e w' => ∃ qa qn qc, e = .returned (.tuple #[cch R (.slice qa qn qc), .slice none 0 0, .int .i64 (if x.w < 0 then 2 else 6)]) ∧ Aside (RdX (give own w.heap.size 9) w' (.slice qa qn qc) L) ∧ Aside (Keeps Nowhere w w') := by
  have H := Aside.mk h
  obtain ⟨a, c, rfl, hlc, hcm, _⟩ := h.sh
  clear h
  obtain ⟨W1, hW1⟩ : ∃ W1, ((w.alloc (.cells #[.int .i64 R, .slice a L.length c] 31)).alloc (.cells #[.int .i64 x.k, .int .i64 x.t, .int .i64 x.w, .int .i64 x.u] 102)).alloc (.cells #[.int .i64 0, .slice none 0 0] 31) = W1 := ⟨_, rfl⟩
  obtain ⟨K1, C1, CX, C2⟩ := boxes3 w R (.slice a L.length c) x W1 hW1
  have d0 : W1.cell? ⟨w.heap.size, 0, none⟩ = some (.int .i64 R) := by rw [C1.it.cell]; rfl
  have d1 : W1.cell? ⟨w.heap.size, 1, none⟩ = some (.slice a L.length c) := by rw [C1.it.cell]; rfl
  have x2 : W1.cell? ⟨w.heap.size + 1, 2, none⟩ = some (.int .i64 x.w) := by rw [CX.it.cell]; rfl
  have z0 : W1.cell? ⟨w.heap.size + 1 + 1, 0, none⟩ = some (.int .i64 0) := by rw [C2.it.cell]; rfl
  have z1 : W1.cell? ⟨w.heap.size + 1 + 1, 1, none⟩ = some (.slice none 0 0) := by rw [C2.it.cell]; rfl
  have h0 := C2.it.frozen 0
  have h1 := C2.it.frozen 1
  rcases hb with hb | ⟨hb, hb2⟩
  · rw [if_pos hb]
    go_enter Tryd.func48, Tryd.ntmps48
    go_upto_region 1 with fail
    clear hW1
    go_wp2_with fail
    obtain ⟨u0, u1, KF, KR⟩ := res28 w C2.it (by omega) K1.it R (.slice a L.length c)
    refine bodyPost_ret (v := .tuple #[cch R (.slice a L.length c), .slice none 0 0, .int .i64 2]) (by simp [results, Tryd.f48, go_sem, u0, u1]) rfl ?_
    exact ⟨_, _, _, rfl, ⟨H.it.sn (I := fun _ => False) (Sn.quiet KF.it 9) (fun x => x)⟩, KF⟩
  · have hb3 : ¬ x.w < 0 := by omega
    rw [if_neg hb3]
    go_enter Tryd.func48, Tryd.ntmps48
    go_upto_region 1 with fail
    clear hW1
    go_wp2_with fail
    obtain ⟨u0, u1, KF, KR⟩ := res28 w C2.it (by omega) K1.it R (.slice a L.length c)
    refine bodyPost_ret (v := .tuple #[cch R (.slice a L.length c), .slice none 0 0, .int .i64 6]) (by simp [results, Tryd.f48, go_sem, u0, u1]) rfl ?_
    exact ⟨_, _, _, rfl, ⟨H.it.sn (I := fun _ => False) (Sn.quiet KF.it 9) (fun x => x)⟩, KF⟩
end Go.Proofs.YtcmgmhdlokcgbaaDoor

/-
  culvertref28: Put that goes through
-/
namespace Go.Proofs.YtcmgmhdlokcgbaaDoor
open Go.RowKit Lulnn

variable {w w' w0 W : World} {own own' : Nat → Nat} {i c o j b q n cb xb rb m : Nat} {room R k now : Int} {L M : List Rx} {I : Nat → Prop} {A : Nat → Addr} {x y : Rx} {z : Oz} {v va vb gv : Value} {ks ms : List Int}

theorem rev_at (m : Nat) (y : Rx) (h : (M.drop m).reverse = (M.drop (m + 1)).reverse ++ [y]) (hlt : m < M.length) : M[m]? = some y := by
  rw [List.drop_eq_getElem_cons hlt, List.reverse_cons] at h
  have := List.append_cancel_left h
  injection this with h1 _
  rw [List.getElem?_eq_getElem hlt, h1]
set_option maxRecDepth 20000 in
set_option maxHeartbeats 8000000 in
theorem dput_ok (h : RdX own w v L) (ho : LOk R L) (hx : x.Ok) (hr : x.w ≤ R) (hmax : (1 + L.length) * 32 ≤ 140737488355328) : Calls Tryd.prog 48 #[cch R v, xag x] w fun e w' => ∃ qa qn qc ga gn gc, e = .returned (.tuple #[cch R (.slice qa qn qc), .slice ga gn gc, .int .i64 0]) ∧ Aside (RdX (give own w.heap.size 9) w' (.slice qa qn qc) (putL R L x)) ∧ Aside (OwR (give own w.heap.size 9) 9 w' 3 1 (.slice ga gn gc) (goneX R L x).length (rk (goneX R L x))) ∧ Aside (Keeps Nowhere w w') := by
  have H := Aside.mk h
  obtain ⟨a, c, rfl, hlc, hcm, _⟩ := h.sh
  clear h
  have mx : maxLen ≤ 9223372036854775807 := by decide
  have HYM := fun (M : List Rx) => @rev_at M
  obtain ⟨W1, hW1⟩ : ∃ W1, ((w.alloc (.cells #[.int .i64 R, .slice a L.length c] 31)).alloc (.cells #[.int .i64 x.k, .int .i64 x.t, .int .i64 x.w, .int .i64 x.u] 102)).alloc (.cells #[.int .i64 0, .slice none 0 0] 31) = W1 := ⟨_, rfl⟩
  obtain ⟨K1, C1, CX, C2⟩ := boxes3 w R (.slice a L.length c) x W1 hW1
  have X1 : Aside (Pg own w W1 R x L [] (.slice a L.length c) (.slice none 0 0)) := ⟨C1.it, CX.it, C2.it, H.it.sn (I := fun _ => False) (Sn.quiet K1.it 9) (fun x => x), World.ownsRow_nil _ _ _ _, K1.it⟩
  have d0 : W1.cell? ⟨w.heap.size, 0, none⟩ = some (.int .i64 R) := by rw [C1.it.cell]; rfl
  have d1 : W1.cell? ⟨w.heap.size, 1, none⟩ = some (.slice a L.length c) := by rw [C1.it.cell]; rfl
  have x0 : W1.cell? ⟨w.heap.size + 1, 0, none⟩ = some (.int .i64 x.k) := by rw [CX.it.cell]; rfl
  have x2 : W1.cell? ⟨w.heap.size + 1, 2, none⟩ = some (.int .i64 x.w) := by rw [CX.it.cell]; rfl
  have DA := Aside.mk (dat X1.it.rd R x.k)
  have HO := Aside.mk ho
  have n0 : ¬ x.w < 0 := by have := hx.w.1; omega
  have n1 : ¬ R < x.w := by omega
  have hxw := hx.w
  have hr1 := ho.r1
  clear ho K1 C1 CX C2
  cases hf : findL L x.k with
  | none =>
    rw [at_none hf] at DA
    have HM0 : L = dropL L x.k := (dropL_none hf).symm
    obtain ⟨M, hM⟩ : ∃ M, M = L := ⟨_, rfl⟩
    have HM : Aside (M = dropL L x.k) := ⟨hM.trans HM0⟩
    have HML := Aside.mk hM
    clear HM0 hM hf
    go_enter Tryd.func48, Tryd.ntmps48
    go_upto_region 5 with fail
    clear hW1
    go_upto_region 8 with (first | (go_at_call 50; refine DA.it.mono ?_; clear DA; rintro e w2 ⟨rfl, K2⟩) | fail)
    obtain ⟨a3, ha3⟩ : ∃ a3, a3 = a := ⟨_, rfl⟩
    obtain ⟨n3, hn3⟩ : ∃ n3, n3 = L.length := ⟨_, rfl⟩
    obtain ⟨c3, hc3⟩ : ∃ c3, c3 = c := ⟨_, rfl⟩
    have X3 : Aside (Pg own w w2 R x M [] (.slice a3 n3 c3) (.slice none 0 0)) := ⟨by rw [HML.it, ha3, hn3, hc3]; exact X1.it.quiet K2.it⟩
    rw [← hn3] at *
    subst ha3 hc3
    clear d0 d1 x0 x2 X1
    have LM : Aside (LOk R M) := ⟨by rw [HM.it]; exact HO.it.drop x.k⟩
    have ML : M.length ≤ L.length := by rw [HM.it]; exact dropL_len
    have DW := Aside.mk (dweight X3.it.rd R LM.it)
    have c0 := X3.it.bx.cell 0
    have c1 := X3.it.bx.cell 1
    simp only [List.getElem?_cons_zero, List.getElem?_cons_succ] at c0 c1
    go_upto_region 10 with (first | (go_at_call 53; refine DW.it.mono ?_; clear DW; rintro e w5 ⟨rfl, K5⟩) | fail)
    have X5 := Aside.mk (X3.it.quiet K5.it)
    clear X3 c0 c1
    have e0 : sumL (M.take M.length) = sumL M := by rw [List.take_length]
    go_loopw [8, 9] (fun gv sv wr => ∃ (m : Nat) (ga : Option Addr) (gn gc : Nat) (qa : Option Addr) (qn qc : Nat), gv = .slice ga gn gc ∧ sv = .int .i64 (sumL (M.take m)) ∧ m ≤ M.length ∧ Aside (fitN (R - x.w) M m = fit (R - x.w) M) ∧ Aside (Pg own w wr R x (M.take m) (M.drop m).reverse (.slice qa qn qc) (.slice ga gn gc))) (fun gv _ _ => M.length - natP gv)
    case atStart =>
      refine ⟨M.length, none, 0, 0, a3, n3, c3, rfl, by rw [e0], Nat.le_refl _, ⟨rfl⟩, ⟨?_⟩⟩
      rw [List.take_length, List.drop_length]
      exact X5.it
    case round =>
      clear X5 e0
      obtain ⟨m, ga, gn, gc, qa, qn, qc, rfl, rfl, hm, F, X⟩ := hrel
      have HGN : Aside (gn = M.length - m) := ⟨by
        have := owns_len1 X.it.go
        rw [List.length_reverse, List.length_drop] at this
        exact this⟩
      have hqn : qn = m := by
        obtain ⟨a4, c4, e4, _⟩ := X.it.rd.sh
        injection e4 with _ e5 _
        rw [List.length_take] at e5
        omega
      subst hqn
      have c0 := X.it.bx.cell 0
      have c1 := X.it.bx.cell 1
      have xw := X.it.xx.cell 2
      simp only [List.getElem?_cons_zero, List.getElem?_cons_succ] at c0 c1 xw
      have s1 := sum_le LM.it qn
      have lim1 : -9223372036854775808 ≤ R - x.w := by omega
      have lim2 : R - x.w ≤ 9223372036854775807 := by omega
      by_cases hs : sumL (M.take qn) ≤ R - x.w
      · have hs' : ¬ R - x.w < sumL (M.take qn) := by omega
        have E : Aside (fit (R - x.w) M = qn) := ⟨by rw [← F.it]; exact fitN_stop hs⟩
        have FI := Aside.mk (dfirst X.it.rd R x (by rw [List.length_take]; omega))
        have x0 := X.it.xx.cell 0
        have x1 := X.it.xx.cell 1
        have x3 := X.it.xx.cell 3
        simp only [List.getElem?_cons_zero, List.getElem?_cons_succ] at x0 x1 x3
        generalize sumL (M.take qn) = S at hs hs' s1 ⊢
        have XS := Aside.mk X.it.sz
        go_upto_region 15 with fail
        go_wp2_with (first
          | (go_at_call 80; refine FI.it.mono ?_; clear FI; rintro e w7 ⟨ra, rn, rc, rfl, O7, K7⟩
             have X7 := Aside.mk (X.it.quiet K7.it)
             have z0 := X7.it.rr.cell 0
             have z1 := X7.it.rr.cell 1
             simp only [List.getElem?_cons_zero, List.getElem?_cons_succ] at z0 z1
             have h0 := X7.it.rr.frozen 0
             have h1 := X7.it.rr.frozen 1)
          | fail)
        obtain ⟨u0, u1, KF, KR⟩ := res28 w X7.it.rr (by omega) X7.it.kp R (.slice ra rn rc)
        refine bodyPost_ret (v := .tuple #[cch R (.slice ra rn rc), .slice ga gn gc, .int .i64 0]) (by simp [results, Tryd.f48, go_sem, u0, u1]) rfl ?_
        have ep : putL R L x = x :: M.take qn := by unfold putL; rw [← HM.it, E.it]
        have eg : goneX R L x = (M.drop qn).reverse := by unfold goneX; rw [← HM.it, E.it]
        rw [ep, eg]
        have xs := XS.it
        refine ⟨ra, rn, rc, ga, gn, gc, rfl, ⟨?_⟩, ⟨?_⟩, KF⟩
        · refine owns_rdN (owns_later O7.it KR.it (fun b hb e => ?_)) rfl (by omega)
          have := owns_base O7.it b hb
          omega
        · refine OwR.new (owns_base_le (owns_later X7.it.go KR.it (fun b hb e => ?_)) (by omega))
          have := owns_base X7.it.go b hb
          omega
      · have hs' : R - x.w < sumL (M.take qn) := by omega
        have hm0 : qn ≠ 0 := by
          rintro rfl
          rw [List.take_zero, sumL_nil] at hs
          omega
        obtain ⟨m, rfl⟩ : ∃ m, qn = m + 1 := ⟨qn - 1, by omega⟩
        have hlt : m < M.length := by omega
        obtain ⟨y, hy⟩ : ∃ y, M[m]? = some y := ⟨_, List.getElem?_eq_getElem hlt⟩
        have hyt : (M.take (m + 1))[m]? = some y := by rw [List.getElem?_take_of_lt (by omega)]; exact hy
        have E : Aside (fitN (R - x.w) M m = fit (R - x.w) M) := ⟨by rw [← F.it]; exact (fitN_on hs).symm⟩
        have es : sumL (M.take (m + 1)) = sumL (M.take m) + y.w := by rw [Rx_take_snoc hy, sumL_append, sumL_cons, sumL_nil, Int.add_zero]
        have s2 := sum_le LM.it m
        obtain ⟨g, c', hv, _, y0, y1, y2, y3⟩ := X.it.rd.at_ m y hyt
        injection hv with hv1 hv2 hv3
        subst hv1 hv3
        clear hv2
        have ED : Aside ((M.drop m).reverse = (M.drop (m + 1)).reverse ++ [y]) := ⟨by
          have h2 := List.getElem?_eq_some_iff.1 hy
          rw [List.drop_eq_getElem_cons h2.1, h2.2, List.reverse_cons]⟩
        have GL : ((M.drop (m + 1)).reverse).length = gn := (owns_len1 X.it.go).symm
        have hgn := HGN.it
        have OG : Aside (wr.ownsRow (w.heap.size + 1 + 1 + 1) 3 1 (.slice ga gn gc) gn (rk (M.drop (m + 1)).reverse)) := ⟨by have r := X.it.go; rw [GL] at r; exact r⟩
        have b3 : (gn + 1) * 8 ≤ 140737488355328 := by omega
        have b4 : gn + 1 ≤ maxLen := Nat.le_trans (show gn + 1 ≤ 140737488355328 by omega) (by decide)
        have XS := Aside.mk X.it.sz
        have t1 : -9223372036854775808 ≤ sumL (M.take (m + 1)) - y.w := by omega
        have t2 : sumL (M.take (m + 1)) - y.w ≤ 9223372036854775807 := by omega
        have ES : Aside (sumL (M.take (m + 1)) - y.w = sumL (M.take m)) := ⟨by omega⟩
        have HGL := Aside.mk GL
        clear hy hyt es s1 s2 hs hm0 F GL hgn
        generalize sumL (M.take (m + 1)) = S at hs' t1 t2 ES ⊢
        have hm1 : ((m : Int) + 1) - 1 = m := by omega
        go_upto_region 12 with fail
        go_upto_region 13 with (first
          | (at_builtin; refine wpList_appendR rfl _ _ 54 rfl 3 (.int .i64 0) 1 8 Tryd.underlying54 infoK rfl (by decide) wr ((Keeps.refl _ _).alloc _) (w.heap.size + 1 + 1 + 1) _ gn _ OG.it _ 1 [.int .i64 y.k] (readsK_new wr 3 [.int .i64 y.k]) rk_cells b3 b4 XS.it rfl rfl ?_
             intro v' w' o5 k5 b5
             obtain ⟨p1, p2, p3, hv'⟩ := owns_shapeK o5.it
             subst hv')
          | fail)
        have XA := Aside.mk (X.it.quiet ((Keeps.refl Nowhere wr).alloc (.cells #[.int .i64 y.k] 3)))
        have X6 := Aside.mk (XA.it.gone (L2 := (M.drop m).reverse) k5.it (by
          have r := o5.it
          rw [ED.it, rk_append, rk_one, List.length_append, HGL.it]
          exact r))
        clear c0 c1 xw y0 y1 y2 y3 o5 k5 b5 XA OG
        obtain ⟨g2, c'', hv, _, y0, y1, y2, y3⟩ := X6.it.rd.at_ m y (by rw [List.getElem?_take_of_lt (by omega)]; have := ED.it; exact (show M[m]? = some y from HYM M m y ED.it hlt))
        injection hv with hv1 hv2 hv3
        injection hv1 with hv1
        injection hv1 with hv1
        subst hv1 hv3
        clear hv2
        have c0 := X6.it.bx.cell 0
        have c1 := X6.it.bx.cell 1
        simp only [List.getElem?_cons_zero, List.getElem?_cons_succ] at c0 c1
        go_upto_region 14 with fail
        rw [ES.it]
        have tl : (M.take (m + 1)).length = m + 1 := by rw [List.length_take]; omega
        have WO := Aside.mk (dwithout X6.it.rd (i := m) R (by rw [tl]; omega) (by rw [tl]; omega))
        rw [take_erase M m hlt] at WO
        clear y0 y1 y2 y3
        go_wp2_with (first
          | (go_at_call 79; refine WO.it.mono ?_; clear WO; rintro e w8 ⟨ra, rn, rc, rfl, O8, K8⟩
             have X8 := Aside.mk (X6.it.quiet K8.it)
             have z0 := X8.it.bx.cell 0
             have z1 := X8.it.bx.cell 1
             simp only [List.getElem?_cons_zero, List.getElem?_cons_succ] at z0 z1
             have h0 := X8.it.bx.frozen 0
             have h1 := X8.it.bx.frozen 1)
          | fail)
        have p2e : p2 = M.length - m := by
          have := owns_len1 X6.it.go
          rw [List.length_reverse, List.length_drop] at this
          exact this
        have X9 := Aside.mk (X8.it.put (owns_rdN (own := own) (w := w) O8.it rfl X6.it.kp.size))
        go_roundw
        case rel => exact ⟨m, p1, p2, p3, ra, rn, rc, rfl, rfl, by omega, E, X9⟩
        case measure =>
          show M.length - p2 < M.length - gn
          have := HGN.it
          omega
  | some x' =>
    obtain ⟨j, hj, ht, he, hjl⟩ := find_split hf
    rw [atI_drop hj ht (findL_some hf).2] at DA
    obtain ⟨M, hM⟩ : ∃ M, M = L.eraseIdx j := ⟨_, rfl⟩
    have HM : Aside (M = dropL L x.k) := ⟨hM.trans he⟩
    have HML := Aside.mk hM
    clear hj ht he hf hM
    go_enter Tryd.func48, Tryd.ntmps48
    go_upto_region 5 with fail
    clear hW1
    go_upto_region 6 with (first | (go_at_call 50; refine DA.it.mono ?_; clear DA; rintro e w2 ⟨rfl, K2⟩) | fail)
    have X2 := Aside.mk (X1.it.quiet K2.it)
    clear d0 d1 x0 x2 X1
    have d0 := X2.it.bx.cell 0
    have d1 := X2.it.bx.cell 1
    simp only [List.getElem?_cons_zero, List.getElem?_cons_succ] at d0 d1
    have WO := Aside.mk (dwithout X2.it.rd R hjl (by omega))
    go_upto_region 8 with (first
      | (go_at_call 79; refine WO.it.mono ?_; clear WO; rintro e w4 ⟨a3, n3, c3, rfl, O4, K4⟩
         have X4 := Aside.mk (X2.it.quiet K4.it)
         have z0 := X4.it.bx.cell 0
         have z1 := X4.it.bx.cell 1
         simp only [List.getElem?_cons_zero, List.getElem?_cons_succ] at z0 z1
         have h0 := X4.it.bx.frozen 0
         have h1 := X4.it.bx.frozen 1)
      | fail)
    have X3 : Aside (Pg own w ((w4.setCell ⟨w.heap.size, 0, none⟩ (.int .i64 R)).setCell ⟨w.heap.size, 1, none⟩ (.slice a3 n3 c3)) R x M [] (.slice a3 n3 c3) (.slice none 0 0)) := ⟨X4.it.put (by rw [HML.it]; exact owns_rdN O4.it rfl X2.it.kp.size)⟩
    generalize (w4.setCell ⟨w.heap.size, 0, none⟩ (.int .i64 R)).setCell ⟨w.heap.size, 1, none⟩ (.slice a3 n3 c3) = w5 at X3 ⊢
    clear d0 d1 z0 z1 h0 h1 X2 X4 O4
    have LM : Aside (LOk R M) := ⟨by rw [HM.it]; exact HO.it.drop x.k⟩
    have ML : M.length ≤ L.length := by rw [HM.it]; exact dropL_len
    have DW := Aside.mk (dweight X3.it.rd R LM.it)
    have c0 := X3.it.bx.cell 0
    have c1 := X3.it.bx.cell 1
    simp only [List.getElem?_cons_zero, List.getElem?_cons_succ] at c0 c1
    go_upto_region 10 with (first | (go_at_call 53; refine DW.it.mono ?_; clear DW; rintro e w5 ⟨rfl, K5⟩) | fail)
    have X5 := Aside.mk (X3.it.quiet K5.it)
    clear X3 c0 c1
    have e0 : sumL (M.take M.length) = sumL M := by rw [List.take_length]
    go_loopw [8, 9] (fun gv sv wr => ∃ (m : Nat) (ga : Option Addr) (gn gc : Nat) (qa : Option Addr) (qn qc : Nat), gv = .slice ga gn gc ∧ sv = .int .i64 (sumL (M.take m)) ∧ m ≤ M.length ∧ Aside (fitN (R - x.w) M m = fit (R - x.w) M) ∧ Aside (Pg own w wr R x (M.take m) (M.drop m).reverse (.slice qa qn qc) (.slice ga gn gc))) (fun gv _ _ => M.length - natP gv)
    case atStart =>
      refine ⟨M.length, none, 0, 0, a3, n3, c3, rfl, by rw [e0], Nat.le_refl _, ⟨rfl⟩, ⟨?_⟩⟩
      rw [List.take_length, List.drop_length]
      exact X5.it
    case round =>
      clear X5 e0
      obtain ⟨m, ga, gn, gc, qa, qn, qc, rfl, rfl, hm, F, X⟩ := hrel
      have HGN : Aside (gn = M.length - m) := ⟨by
        have := owns_len1 X.it.go
        rw [List.length_reverse, List.length_drop] at this
        exact this⟩
      have hqn : qn = m := by
        obtain ⟨a4, c4, e4, _⟩ := X.it.rd.sh
        injection e4 with _ e5 _
        rw [List.length_take] at e5
        omega
      subst hqn
      have c0 := X.it.bx.cell 0
      have c1 := X.it.bx.cell 1
      have xw := X.it.xx.cell 2
      simp only [List.getElem?_cons_zero, List.getElem?_cons_succ] at c0 c1 xw
      have s1 := sum_le LM.it qn
      have lim1 : -9223372036854775808 ≤ R - x.w := by omega
      have lim2 : R - x.w ≤ 9223372036854775807 := by omega
      by_cases hs : sumL (M.take qn) ≤ R - x.w
      · have hs' : ¬ R - x.w < sumL (M.take qn) := by omega
        have E : Aside (fit (R - x.w) M = qn) := ⟨by rw [← F.it]; exact fitN_stop hs⟩
        have FI := Aside.mk (dfirst X.it.rd R x (by rw [List.length_take]; omega))
        have x0 := X.it.xx.cell 0
        have x1 := X.it.xx.cell 1
        have x3 := X.it.xx.cell 3
        simp only [List.getElem?_cons_zero, List.getElem?_cons_succ] at x0 x1 x3
        generalize sumL (M.take qn) = S at hs hs' s1 ⊢
        have XS := Aside.mk X.it.sz
        go_upto_region 15 with fail
        go_wp2_with (first
          | (go_at_call 80; refine FI.it.mono ?_; clear FI; rintro e w7 ⟨ra, rn, rc, rfl, O7, K7⟩
             have X7 := Aside.mk (X.it.quiet K7.it)
             have z0 := X7.it.rr.cell 0
             have z1 := X7.it.rr.cell 1
             simp only [List.getElem?_cons_zero, List.getElem?_cons_succ] at z0 z1
             have h0 := X7.it.rr.frozen 0
             have h1 := X7.it.rr.frozen 1)
          | fail)
        obtain ⟨u0, u1, KF, KR⟩ := res28 w X7.it.rr (by omega) X7.it.kp R (.slice ra rn rc)
        refine bodyPost_ret (v := .tuple #[cch R (.slice ra rn rc), .slice ga gn gc, .int .i64 0]) (by simp [results, Tryd.f48, go_sem, u0, u1]) rfl ?_
        have ep : putL R L x = x :: M.take qn := by unfold putL; rw [← HM.it, E.it]
        have eg : goneX R L x = (M.drop qn).reverse := by unfold goneX; rw [← HM.it, E.it]
        rw [ep, eg]
        have xs := XS.it
        refine ⟨ra, rn, rc, ga, gn, gc, rfl, ⟨?_⟩, ⟨?_⟩, KF⟩
        · refine owns_rdN (owns_later O7.it KR.it (fun b hb e => ?_)) rfl (by omega)
          have := owns_base O7.it b hb
          omega
        · refine OwR.new (owns_base_le (owns_later X7.it.go KR.it (fun b hb e => ?_)) (by omega))
          have := owns_base X7.it.go b hb
          omega
      · have hs' : R - x.w < sumL (M.take qn) := by omega
        have hm0 : qn ≠ 0 := by
          rintro rfl
          rw [List.take_zero, sumL_nil] at hs
          omega
        obtain ⟨m, rfl⟩ : ∃ m, qn = m + 1 := ⟨qn - 1, by omega⟩
        have hlt : m < M.length := by omega
        obtain ⟨y, hy⟩ : ∃ y, M[m]? = some y := ⟨_, List.getElem?_eq_getElem hlt⟩
        have hyt : (M.take (m + 1))[m]? = some y := by rw [List.getElem?_take_of_lt (by omega)]; exact hy
        have E : Aside (fitN (R - x.w) M m = fit (R - x.w) M) := ⟨by rw [← F.it]; exact (fitN_on hs).symm⟩
        have es : sumL (M.take (m + 1)) = sumL (M.take m) + y.w := by rw [Rx_take_snoc hy, sumL_append, sumL_cons, sumL_nil, Int.add_zero]
        have s2 := sum_le LM.it m
        obtain ⟨g, c', hv, _, y0, y1, y2, y3⟩ := X.it.rd.at_ m y hyt
        injection hv with hv1 hv2 hv3
        subst hv1 hv3
        clear hv2
        have ED : Aside ((M.drop m).reverse = (M.drop (m + 1)).reverse ++ [y]) := ⟨by
          have h2 := List.getElem?_eq_some_iff.1 hy
          rw [List.drop_eq_getElem_cons h2.1, h2.2, List.reverse_cons]⟩
        have GL : ((M.drop (m + 1)).reverse).length = gn := (owns_len1 X.it.go).symm
        have hgn := HGN.it
        have OG : Aside (wr.ownsRow (w.heap.size + 1 + 1 + 1) 3 1 (.slice ga gn gc) gn (rk (M.drop (m + 1)).reverse)) := ⟨by have r := X.it.go; rw [GL] at r; exact r⟩
        have b3 : (gn + 1) * 8 ≤ 140737488355328 := by omega
        have b4 : gn + 1 ≤ maxLen := Nat.le_trans (show gn + 1 ≤ 140737488355328 by omega) (by decide)
        have XS := Aside.mk X.it.sz
        have t1 : -9223372036854775808 ≤ sumL (M.take (m + 1)) - y.w := by omega
        have t2 : sumL (M.take (m + 1)) - y.w ≤ 9223372036854775807 := by omega
        have ES : Aside (sumL (M.take (m + 1)) - y.w = sumL (M.take m)) := ⟨by omega⟩
        have HGL := Aside.mk GL
        clear hy hyt es s1 s2 hs hm0 F GL hgn
        generalize sumL (M.take (m + 1)) = S at hs' t1 t2 ES ⊢
        have hm1 : ((m : Int) + 1) - 1 = m := by omega
        go_upto_region 12 with fail
        go_upto_region 13 with (first
          | (at_builtin; refine wpList_appendR rfl _ _ 54 rfl 3 (.int .i64 0) 1 8 Tryd.underlying54 infoK rfl (by decide) wr ((Keeps.refl _ _).alloc _) (w.heap.size + 1 + 1 + 1) _ gn _ OG.it _ 1 [.int .i64 y.k] (readsK_new wr 3 [.int .i64 y.k]) rk_cells b3 b4 XS.it rfl rfl ?_
             intro v' w' o5 k5 b5
             obtain ⟨p1, p2, p3, hv'⟩ := owns_shapeK o5.it
             subst hv')
          | fail)
        have XA := Aside.mk (X.it.quiet ((Keeps.refl Nowhere wr).alloc (.cells #[.int .i64 y.k] 3)))
        have X6 := Aside.mk (XA.it.gone (L2 := (M.drop m).reverse) k5.it (by
          have r := o5.it
          rw [ED.it, rk_append, rk_one, List.length_append, HGL.it]
          exact r))
        clear c0 c1 xw y0 y1 y2 y3 o5 k5 b5 XA OG
        obtain ⟨g2, c'', hv, _, y0, y1, y2, y3⟩ := X6.it.rd.at_ m y (by rw [List.getElem?_take_of_lt (by omega)]; have := ED.it; exact (show M[m]? = some y from HYM M m y ED.it hlt))
        injection hv with hv1 hv2 hv3
        injection hv1 with hv1
        injection hv1 with hv1
        subst hv1 hv3
        clear hv2
        have c0 := X6.it.bx.cell 0
        have c1 := X6.it.bx.cell 1
        simp only [List.getElem?_cons_zero, List.getElem?_cons_succ] at c0 c1
        go_upto_region 14 with fail
        rw [ES.it]
        have tl : (M.take (m + 1)).length = m + 1 := by rw [List.length_take]; omega
        have WO := Aside.mk (dwithout X6.it.rd (i := m) R (by rw [tl]; omega) (by rw [tl]; omega))
        rw [take_erase M m hlt] at WO
        clear y0 y1 y2 y3
        go_wp2_with (first
          | (go_at_call 79; refine WO.it.mono ?_; clear WO; rintro e w8 ⟨ra, rn, rc, rfl, O8, K8⟩
             have X8 := Aside.mk (X6.it.quiet K8.it)
             have z0 := X8.it.bx.cell 0
             have z1 := X8.it.bx.cell 1
             simp only [List.getElem?_cons_zero, List.getElem?_cons_succ] at z0 z1
             have h0 := X8.it.bx.frozen 0
             have h1 := X8.it.bx.frozen 1)
          | fail)
        have p2e : p2 = M.length - m := by
          have := owns_len1 X6.it.go
          rw [List.length_reverse, List.length_drop] at this
          exact this
        have X9 := Aside.mk (X8.it.put (owns_rdN (own := own) (w := w) O8.it rfl X6.it.kp.size))
        go_roundw
        case rel => exact ⟨m, p1, p2, p3, ra, rn, rc, rfl, rfl, by omega, E, X9⟩
        case measure =>
          show M.length - p2 < M.length - gn
          have := HGN.it
          omega
end Go.Proofs.YtcmgmhdlokcgbaaDoor

