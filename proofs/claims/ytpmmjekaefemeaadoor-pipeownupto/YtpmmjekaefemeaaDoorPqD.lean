/-
  the document's pipe: Move
-/
import Derived.Test.YtpmmjekaefemeaaDoorPqC
namespace Go.Proofs.YtpmmjekaefemeaaDoor
open Go.RowKit

section
variable {own own' own1 : Nat → Nat} {w w' w1 W : World} {r b ALL : List Int} {v : Value} {G : Nat} {cut : Bool}

theorem und_le : (und ALL G cut).length ≤ ALL.length := by
  unfold und
  split
  · exact Nat.zero_le _
  · rw [List.length_drop]; omega
theorem und_at {k : Nat} {x : Int} (h : (und ALL G cut)[k]? = some x) : ALL[G + k]? = some x := by
  unfold und at h
  split at h
  · simp at h
  · rwa [List.getElem?_drop] at h
set_option maxHeartbeats 2000000 in
theorem dmove (v : Value) (hv : Rd w v ALL) (hG : G ≤ ALL.length) (hm : ALL.length ≤ 2199023255551) (cut : Bool) (n : Int) :
    Calls Tryd.prog 21 #[dz v G cut, .int .i64 n] w fun e w' => ∃ a c l, e = .returned (.tuple #[dz v ((G + ((und ALL G cut).take n.toNat).length : Nat) : Int) cut, .slice a l c]) ∧ Aside (Nw w w' (.slice a l c) ((und ALL G cut).take n.toNat)) := by
  have X := Aside.mk (Dz.start w v G cut)
  have HV := Aside.mk hv
  have DL := Aside.mk (fun W => dleft (w := W) v hv.shape hG hm cut)
  obtain ⟨a, c, rfl⟩ := hv.shape
  have UL := und_le (ALL := ALL) (G := G) (cut := cut)
  have UA := Aside.mk (fun k x => und_at (ALL := ALL) (G := G) (cut := cut) (k := k) (x := x))
  obtain ⟨U, hU⟩ : ∃ U, und ALL G cut = U := ⟨_, rfl⟩
  rw [hU] at DL UL UA ⊢
  obtain ⟨N, hN⟩ : ∃ N, ALL.length = N := ⟨_, rfl⟩
  obtain ⟨M, hM⟩ : ∃ M, U.length = M := ⟨_, rfl⟩
  have HN := Aside.mk hN
  have HM := Aside.mk hM
  rw [hN] at X HV hm hG DL UL
  rw [hM] at DL UL
  rw [hN]
  obtain ⟨bx, hbx⟩ : ∃ bx, w.heap.size = bx := ⟨_, rfl⟩
  obtain ⟨W1, hW1⟩ : ∃ W1, ((w.alloc (dzc (.slice a N c) G cut)).alloc (dzc (.slice none 0 0) 0 false)) = W1 := ⟨_, rfl⟩
  rw [hW1, hbx] at X
  -- how many
  obtain ⟨K, hK⟩ : ∃ K : Nat, (U.take n.toNat).length = K := ⟨_, rfl⟩
  have hK2 : K = min n.toNat M := by rw [← hK, List.length_take, hM]
  rw [hK]
  have HK := Aside.mk hK
  have HTK : Aside (U.take n.toNat = U.take K) := ⟨by
    rw [hK2]
    by_cases e : n.toNat ≤ M
    · rw [Nat.min_eq_left e]
    · rw [Nat.min_eq_right (by omega), List.take_of_length_le (by omega), List.take_of_length_le (by omega)]⟩
  obtain ⟨d0, d1, d2, _⟩ := X.it.cells
  obtain ⟨P, hP⟩ : ∃ P : Nat, Aside (G + K = P) := ⟨_, ⟨rfl⟩⟩
  rw [hP.it]
  have HK2 := Aside.mk hK2
  clear hv hN hM hU hK hK2
  go_enter Tryd.func21, Tryd.ntmps21
  go_upto_region 1 with fail
  clear hW1 hbx
  go_upto_region 2 with (go_at_call 25; refine (DL.it _).mono ?_; rintro e w2 ⟨rfl, K2⟩)
  have X2 := Aside.mk (X.it.quiet K2.it)
  clear X DL d0 d1 d2
  obtain ⟨d0, d1, d2, _⟩ := X2.it.cells
  have hGI : (G : Int) ≤ N := by omega
  -- the bound that stands behind the test
  obtain ⟨n', hn'⟩ : ∃ n' : Int, n' = (if (M : Int) < n then (M : Int) else n) := ⟨_, rfl⟩
  have hn1 : n'.toNat = K ∧ (n' ≤ (K : Int)) ∧ (0 ≤ n' → n' = K) := by have := HK2.it; split at hn' <;> omega
  have HN1 := Aside.mk hn1
  go_upto_if 13 with fail
  go_cut [1] (fun y wx => y = .int .i64 n' ∧ wx = w2)
  case first =>
    by_cases e : (M : Int) < n
    · rw [if_pos e] at hn'
      clear hn1 HN1
      subst hn'
      go_wp2_with fail
      go_meet
      case rel => exact ⟨rfl, rfl⟩
    · rw [if_neg e] at hn'
      clear hn1 HN1
      subst hn'
      go_wp2_with fail
      go_meet
      case rel => exact ⟨rfl, rfl⟩
  case rest =>
    obtain ⟨rfl, rfl⟩ := hcut
    clear hn' hn1
    go_upto_region 5 with fail
    go_wp2_with fail
    go_loopw [7, 8] (fun y i wr => ∃ (k : Nat) (q : Option Addr) (l c : Nat), i = .int .i64 k ∧ k ≤ K ∧ y = .slice q l c ∧ Aside (Nw wc wr (.slice q l c) (U.take k))) (fun _ i _ => K - natOf i)
    case atStart => exact ⟨0, _, _, _, rfl, Nat.zero_le _, rfl, ⟨⟨World.ownsRow_nil _ _ _ _, Keeps.refl _ _⟩⟩⟩
    case round =>
      obtain ⟨k, q, l, cc, rfl, hk, rfl, Z⟩ := hrel
      clear d0 d1 d2
      have X3 := Aside.mk (X2.it.quiet Z.it.k)
      obtain ⟨d0, d1, d2, e0, e1, e2, f0, f1, f2, g0, g1, g2⟩ := X3.it.cells
      rcases Nat.eq_or_lt_of_le hk with rfl | hlt
      · have i1 : n' ≤ (k : Int) := HN1.it.2.1
        obtain ⟨q4, c4, hs⟩ := OwnB.shape Z.it.row
        rw [← HTK.it, HK.it] at hs
        injection hs with s1 s2 s3
        subst s1 s2 s3
        have i2 : (G : Int) + l = (P : Int) := by have := hP.it; omega
        have i3 : (P : Int) ≤ 9223372036854775807 := by have := hP.it; have := HM.it; have := HK2.it; omega
        have C1 := Aside.mk (X3.it.c1.setCell 1 (.int .i64 (P : Int)))
        go_wp2_with fail
        obtain ⟨F, hF, z0, z1, z2, KF, KW⟩ := X3.it.fin (w1 := wr.setCell ⟨bx, 1, none⟩ (.int .i64 (P : Int))) ((Keeps.refl _ _).setCell _ _ (fun _ => rfl)) C1.it
        rw [← hF]
        refine bodyPost_ret (v := .tuple #[dz (.slice a N c) (P : Int) cut, .slice q l cc]) (by simp [results, Tryd.results21, go_sem, z0, z1, z2]) rfl ?_
        exact ⟨_, _, _, rfl, ⟨by rw [HTK.it]; exact X2.it.row Z.it.row KW.it KF.it⟩⟩
      · obtain ⟨y, hy⟩ : ∃ y, U[k]? = some y := ⟨_, List.getElem?_eq_getElem (by have := HM.it; have := HK2.it; omega)⟩
        have hy2 := UA.it k y hy
        have hGk : G + k < N := by have := (List.getElem?_eq_some_iff.1 hy2).1; have := HN.it; omega
        obtain ⟨g, o, rfl, hc⟩ := (HV.it.keep (X3.it.k) (fun _ _ x => x)).get hy2
        have TM := Aside.mk (take_more U k y hy)
        have hnk : n' = (K : Int) := HN1.it.2.2 (by have := HN1.it.1; omega)
        have i0 : (k : Int) < n' := by omega
        have i1 : (k : Int) ≤ 9223372036854775806 := by omega
        have i2 : (G : Int) + k = ((G + k : Nat) : Int) := by omega
        have i3 : ((G + k : Nat) : Int) ≤ 9223372036854775806 := by omega
        have i4 : ((G + k : Nat) : Int) < N := by omega
        have LL : Aside ((U.take k).length ≤ 2199023255551) := ⟨by have := HM.it; rw [List.length_take]; omega⟩
        obtain ⟨Q, hQ⟩ : ∃ Q, G + k = Q := ⟨_, rfl⟩
        rw [hQ] at hc i2 i3 i4
        clear hy hy2 hk hGk hQ hnk e0 e1 e2 f0 f1 f2 g0 g1 g2
        go_wp2_with (first
          | (at_builtin; refine wpList_appendB rfl (.tmp 20) (.tmp 29) rfl wc.heap.size (.slice q l cc) (.slice (some ⟨wr.heap.size, 0, none⟩) 1 1) (U.take k) [y] (Z.it.row.later (((Keeps.refl Nowhere wr).alloc _).bel)) (rd_new wr [y] 1 rfl) (by have := LL.it; simp only [List.length_cons, List.length_nil]; omega) (Nat.le_trans Z.it.k.size (by rw [World.size_alloc]; omega)) rfl rfl ?_; intro v4 w4 o4 k4; obtain ⟨q4, c4, hv4⟩ := OwnB.shape o4.it; obtain ⟨l4, hl4⟩ : ∃ l4, ((U.take k) ++ [y]).length = l4 := ⟨_, rfl⟩; rw [hl4] at hv4; clear hl4; subst hv4)
          | fail)
        go_roundw
        case rel => exact ⟨k + 1, q4, l4, c4, by go_num, by omega, rfl, ⟨⟨by rw [TM.it]; exact o4.it, keeps_from (Z.it.k.alloc _) k4.it⟩⟩⟩
        case measure => simp [natOf]; omega
end
end Go.Proofs.YtpmmjekaefemeaaDoor
