/-
  culvertlaw01.Apart: the walk.
-/
import Derived.Test.YteghehhifebhcaaDoorOApartB
import Derived.BigQuiet
import Derived.Deep.RegionHeldLaw
import Derived.WalkSpells
namespace Go.Proofs.YteghehhifebhcaaDoor
open Go.RowKit

theorem bytesInfo : (Tryd.prog.info? 36).map (fun i => (i.zero, i.size, i.bytes)) = some (some (.slice none 0 0), 1, 24) := by kernel_rfl

set_option maxRecDepth 20000 in
set_option maxHeartbeats 4000000 in
theorem apart_walkK (B : Nat) (w : World) (ow0 : Nat → Nat) (p c0 : Nat) (vs : List Value) (M : Nat → List Int) (hB : B ≤ w.heap.size) (hP : OutP w p vs) (hpo : ow0 p = 0) (hK : vs.length ≤ 1000) (hc0 : vs.length ≤ c0)
    (hrows : ∀ j v, vs[j]? = some v → OwnB B w v (M j) ∧ Mine ow0 (j + 1) v ∧ (M j).length ≤ 140737488355000) :
    Calls Tryd.prog 27 #[.slice (some ⟨p, 0, none⟩) vs.length c0] w fun e w' => e = .returned (.bool true) ∧ Below B w w' ∧ Keeps (fun b => 1 ≤ ow0 b) w w' := by
  obtain ⟨i0, hi0, hz0, hz1, hz2⟩ := info_parts bytesInfo
  obtain ⟨wq, hmk, hq, hkq, hsq⟩ := run_makeK (P := Tryd.prog) w 88 36 i0 _ Tryd.underlying88 hi0 hz0 hz1 rfl vs.length (by rw [hz2]; omega) (by omega)
  have hmake : MakeRun Tryd.prog 88 vs.length w _ wq := ⟨hmk⟩
  have A0 : Aside (Aq B w ow0 (give ow0 w.heap.size 0) p w.heap.size vs M 0 0 (List.replicate vs.length (.slice none 0 0)) wq) := ⟨{
    below := hkq.below hB (fun _ x => x.elim)
    ag := fun b hb => give_old hb
    kp := hkq.any
    qn := Nat.le_refl _
    hB := Nat.le_trans hB hkq.size
    outer := hP.later hkq (fun x => x)
    mineP := by rw [give_old hP.lt]; exact hpo
    outq := hq
    mineQ := give_new (Nat.le_refl _)
    bq := hB
    pq := Nat.ne_of_lt hP.lt
    reads := fun j v hv => ⟨((hrows j v hv).1.keeps hkq (fun _ _ x => x)).rc, fun b hb => by rw [give_old ((hrows j v hv).1.lt b hb)]; exact (hrows j v hv).2.1 b hb, fun b hb => Nat.lt_of_lt_of_le ((hrows j v hv).1.lt b hb) hkq.size⟩
    todo := fun j v _ hv => (hrows j v hv).1.keeps hkq (fun _ _ x => x)
    done := fun j u hd => absurd hd (Nat.not_lt_zero _) }⟩
  have LN : Aside (∀ j v, vs[j]? = some v → (M j).length ≤ 140737488355000) := ⟨fun j v hv => (hrows j v hv).2.2⟩
  obtain ⟨OWN, hOWN⟩ : ∃ o, o = give ow0 w.heap.size 0 := ⟨_, rfl⟩
  rw [← hOWN] at A0
  obtain ⟨q, hqq⟩ : ∃ q, q = w.heap.size := ⟨_, rfl⟩
  rw [← hqq] at A0 hmake
  obtain ⟨us, hus⟩ : ∃ u, u = List.replicate vs.length (Value.slice none 0 0) := ⟨_, rfl⟩
  rw [← hus] at A0
  have LU : Aside (us.length = vs.length) := ⟨by rw [hus]; simp⟩
  obtain ⟨K, hKK⟩ : ∃ K, K = vs.length := ⟨_, rfl⟩
  rw [← hKK] at hmake hK hc0 ⊢
  have HK := Aside.mk hKK
  clear hrows hP hpo hq hkq hsq hmk hOWN hqq hus hi0 hz0 hz1 hz2 hKK hB
  go_enter Tryd.func27, Tryd.ntmps27
  go_wp2_with (refine wpList_makeK rfl _ _ _ rfl K rfl rfl wq _ hmake ?_)
  go_loopw [4] (fun x wr => ∃ (i : Nat) (N : Nat → List Int), x = .int .i64 i ∧ i ≤ K ∧ Aside (Aq B w ow0 OWN p q vs N 0 0 us wr) ∧ Aside (∀ j, (N j).length = (M j).length) ∧ Aside (∀ j, j < i → N j = P1 j (M j).length)) (fun x _ => K - (intOf x).toNat)
  case atStart => exact ⟨0, M, rfl, Nat.zero_le _, A0, ⟨fun _ => rfl⟩, ⟨fun j hj => absurd hj (Nat.not_lt_zero _)⟩⟩
  case round =>
    obtain ⟨i, N, rfl, hi, A1, LEN, DONE⟩ := hrel
    by_cases hlt : i < K
    · have hlt' : (i : Int) < (K : Int) := by omega
      obtain ⟨v, hv⟩ : ∃ v, vs[i]? = some v := ⟨vs[i]'(by have := HK.it; omega), List.getElem?_eq_getElem _⟩
      have hv := Aside.mk hv
      obtain ⟨n, hn⟩ : ∃ n, n = (M i).length := ⟨_, rfl⟩
      have hnb : n ≤ 140737488355000 := by rw [hn]; exact LN.it i v hv.it
      have hn := Aside.mk hn
      obtain ⟨a, c, hva⟩ : ∃ a c, v = .slice a n c := by
        obtain ⟨a, c, h⟩ := (A1.it.todo i v (Nat.zero_le _) hv.it).shape
        exact ⟨a, c, by rw [h, LEN.it i, hn.it]⟩
      subst hva
      go_wp2_with fail
      go_loopw [5] (fun y wr => ∃ (k : Nat) (N : Nat → List Int), y = .int .i64 k ∧ k ≤ n ∧ Aside (Aq B w ow0 OWN p q vs N 0 0 us wr) ∧ Aside (∀ j, (N j).length = (M j).length) ∧ Aside (∀ j, j < i → N j = P1 j (M j).length) ∧ Aside (∀ r, r < k → (N i).getD r 0 = b1 i r)) (fun y _ => n - (intOf y).toNat)
      case atStart => exact ⟨0, N, rfl, Nat.zero_le _, A1, LEN, DONE, ⟨fun r hr => absurd hr (Nat.not_lt_zero _)⟩⟩
      case round =>
        obtain ⟨k, N, rfl, hk, A2, LEN2, DONE2, PART⟩ := hrel
        have cP : wr.cell? ⟨p, i, none⟩ = some (.slice a n c) := A2.it.outer.cell i _ hv.it
        by_cases hkn : k < n
        · have hkn' : (k : Int) < (n : Int) := by omega
          have hlen : (N i).length = n := by rw [LEN2.it i, hn.it]
          have o2 := A2.it.todo i _ (Nat.zero_le _) hv.it
          obtain ⟨g, c', hva, hcell⟩ := o2.at (by omega)
          injection hva with e1 e2 e3
          subst e1 e3
          have cG := hcell k (by omega)
          have fG := o2.frozen k
          have hlen := Aside.mk hlen
          clear hcell o2 e2
          go_wp2_with fail
          refine ⟨⟨k + 1, _, by go_num, by omega, ⟨A2.it.set i g _ c k (b1 i k) hv.it (by rw [hlen.it]; omega)⟩, ⟨fun j => ?_⟩, ⟨fun j hj => ?_⟩, ⟨fun r hr => ?_⟩⟩, by simp [intOf]; omega⟩
          · split
            · rename_i e; rw [List.length_set, e]; exact LEN2.it i
            · exact LEN2.it j
          · rw [if_neg (by omega)]
            exact DONE2.it j hj
          · rw [if_pos rfl]
            by_cases e : r = k
            · subst e
              simp [List.getD, hlen.it, hkn]
            · have := PART.it r (by omega)
              rw [← this]
              simp [List.getD, List.getElem?_set_ne (show k ≠ r by omega)]
        · go_wp2_with fail
          refine ⟨⟨i + 1, N, by go_num, by omega, A2, LEN2, ⟨fun j hj => ?_⟩⟩, by simp [intOf]; omega⟩
          by_cases e : j = i
          · subst e
            have hl : (N j).length = n := by rw [LEN2.it j, hn.it]
            apply List.ext_getElem?
            intro r
            by_cases hr : r < n
            · have h1 := PART.it r (by omega)
              have h2 := P1_at j n r hr
              rw [← hn.it]
              simp only [List.getD] at h1 h2
              rw [List.getElem?_eq_getElem (by omega)] at h1 ⊢
              rw [List.getElem?_eq_getElem (by rw [P1_length]; omega)] at h2 ⊢
              simp only [Option.getD_some] at h1 h2
              rw [h1, h2]
            · rw [List.getElem?_eq_none (by omega), List.getElem?_eq_none (by rw [P1_length, ← hn.it]; omega)]
          · exact DONE2.it j (by omega)
    · obtain rfl : i = K := by omega
      have A2 : Aside (Aq B w ow0 OWN p q vs (fun j => P1 j (M j).length) 0 0 us wr) := ⟨A1.it.change (fun j v hj => DONE.it j (by have := (List.getElem?_eq_some_iff.1 hj).1; have := HK.it; omega))⟩
      obtain ⟨N, hN⟩ : ∃ N, N = fun j => P1 j (M j).length := ⟨_, rfl⟩
      rw [← hN] at A2
      have HN : Aside (∀ j, N j = P1 j (M j).length) := ⟨fun j => by rw [hN]⟩
      clear A1 A0 DONE LEN hN
      go_wp2_with fail
      go_loopw [6] (fun x wr => ∃ (i' : Nat) (own : Nat → Nat) (us : List Value), x = .int .i64 i' ∧ i' ≤ i ∧ Aside (us.length = i) ∧ Aside (Aq B w ow0 own p q vs N i' i' us wr)) (fun x _ => i - (intOf x).toNat)
      case atStart => exact ⟨0, OWN, us, rfl, Nat.zero_le _, ⟨by rw [LU.it, HK.it]⟩, A2⟩
      case round =>
        obtain ⟨m, own, us, rfl, hm, LU, A3⟩ := hrel
        by_cases hlt : m < i
        · have hlt' : (m : Int) < (i : Int) := by omega
          obtain ⟨v, hv⟩ : ∃ v, vs[m]? = some v := ⟨vs[m]'(by have := HK.it; omega), List.getElem?_eq_getElem _⟩
          have hv := Aside.mk hv
          have O3 := Aside.mk (A3.it.todo m v (Nat.le_refl _) hv.it)
          have MV := Aside.mk (A3.it.reads m v hv.it).2.1
          have hnb : Aside ((N m).length ≤ 140737488355000) := ⟨by rw [HN.it, P1_length]; exact LN.it m v hv.it⟩
          obtain ⟨a, c, hva⟩ := O3.it.shape
          obtain ⟨n, hn⟩ : ∃ n, Aside (n = (N m).length) := ⟨_, ⟨rfl⟩⟩
          rw [← hn.it] at hva
          subst hva
          have cP : wr.cell? ⟨p, m, none⟩ = some (.slice a n c) := A3.it.outer.cell m _ hv.it
          have A4 := Aside.mk (A3.it.weak)
          go_wp2_with fail
          go_loopw [7, 8] (fun g y wr => ∃ (k : Nat) (own : Nat → Nat), y = .int .i64 k ∧ k ≤ 40 ∧ (∃ a l c, g = .slice a l c) ∧ Aside (Aq B w ow0 own p q vs N (m + 1) m us wr) ∧ Aside (Mine own (m + 1) g) ∧ Aside (OwnB B wr g (N m ++ P2 m k))) (fun _ y _ => 40 - (intOf y).toNat)
          case atStart => exact ⟨0, own, rfl, by omega, ⟨_, _, _, rfl⟩, A4, MV, ⟨by simpa [P2] using O3.it⟩⟩
          case round =>
            obtain ⟨k, own, rfl, hk, ⟨ga, gl, gc, rfl⟩, A5, MG, OG⟩ := hrel
            by_cases hk40 : k < 40
            · have hk' : (k : Int) < 40 := by omega
              have OG' := Aside.mk (OG.it.later ((Below.refl wr.heap.size wr).alloc (Nat.le_refl _) (.cells #[.int .u8 (b2 m k)] 5)))
              have A6 := Aside.mk (A5.it.quiet ((Keeps.refl Nowhere wr).alloc (.cells #[.int .u8 (b2 m k)] 5)))
              have RD := Aside.mk (rd_newA wr [b2 m k] 1 rfl)
              have hsz : (N m ++ P2 m k).length + [b2 m k].length ≤ 140737488355328 := by
                have := hnb.it
                rw [List.length_append, P2_length]
                simp only [List.length_singleton]
                omega
              have hsz := Aside.mk hsz
              go_wp2_with (at_builtin; refine wpList_appendL rfl (.tmp 55) (.tmp 62) rfl B _ _ (N m ++ P2 m k) [b2 m k] OG'.it RD.it (by simp) hsz.it A6.it.hB rfl rfl ?_; intro v' w' o' k' bl' st')
              obtain ⟨A7, MG'⟩ := A6.it.grow (k := k) MG.it OG'.it k'.it bl'.it st'.it
              refine ⟨⟨k + 1, _, by go_num, by omega, ?_, ⟨A7⟩, ⟨MG'⟩, ⟨?_⟩⟩, by simp [intOf]; omega⟩
              · obtain ⟨pa, pc, h⟩ := o'.it.shape
                exact ⟨_, _, _, h⟩
              · rw [P2_succ, ← List.append_assoc]
                exact o'.it
            · obtain rfl : k = 40 := by omega
              have cQ : ∃ u, wr.cell? ⟨q, m, none⟩ = some u := ⟨us[m]'(by have := LU.it; omega), by rw [A5.it.outq.cell]; exact List.getElem?_eq_getElem _⟩
              obtain ⟨uq, cQ⟩ := cQ
              have fQ := A5.it.outq.frozen m
              go_wp2_with fail
              refine ⟨⟨m + 1, own, us.set m (.slice ga gl gc), by go_num, by omega, ⟨by rw [List.length_set]; exact LU.it⟩, ⟨A5.it.put MG.it OG.it (by rw [LU.it]; omega)⟩⟩, by simp [intOf]; omega⟩
        · obtain rfl : m = i := by omega
          clear A2
          go_wp2_with fail
          go_loopw [9] (fun x wx => ∃ j d : Nat, x = .int .i64 j ∧ j ≤ m ∧ wx = wr.drewN d) (fun x _ => m - (intOf x).toNat)
          case atStart => exact ⟨0, 0, rfl, Nat.zero_le _, rfl⟩
          case round =>
            obtain ⟨j, dd, rfl, hj, rfl⟩ := hrel
            by_cases hlt : j < m
            · have hlt' : (j : Int) < (m : Int) := by omega
              obtain ⟨v, hv⟩ : ∃ v, vs[j]? = some v := ⟨vs[j]'(by have := HK.it; omega), List.getElem?_eq_getElem _⟩
              obtain ⟨u, hu⟩ : ∃ u, us[j]? = some u := ⟨us[j]'(by have := LU.it; omega), List.getElem?_eq_getElem _⟩
              obtain ⟨a, c, hva, hcV⟩ := (A3.it.reads j v hv).1
              obtain ⟨hO, _⟩ := A3.it.done j u hlt hu
              have hl40 : (N j ++ P2 j 40).length = (N j).length + 40 := by rw [List.length_append, P2_length]
              obtain ⟨g, cg, hug, hcU⟩ := hO.at (by omega)
              rw [hl40] at hug hcU
              have hnb : (N j).length ≤ 140737488355000 := by rw [HN.it, P1_length]; exact LN.it j v hv
              have cP : wr.cell? ⟨p, j, none⟩ = some v := A3.it.outer.cell j _ hv
              have cQ : wr.cell? ⟨q, j, none⟩ = some u := by rw [A3.it.outq.cell, hu]
              have CV : Aside (∀ r, r < (N j).length → ∃ g, a = some ⟨g, 0, none⟩ ∧ wr.cell? ⟨g, r, none⟩ = some (.int .u8 ((7 * (j : Int) + (r : Int)) % 256))) := ⟨fun r hr => by
                obtain ⟨g, hg, hc⟩ := hcV r hr
                rw [HN.it, P1_length] at hr
                rw [HN.it, P1_at j _ r hr] at hc
                exact ⟨g, hg, hc⟩⟩
              have CU : Aside (∀ r, r < 40 → wr.cell? ⟨g, (N j).length + r, none⟩ = some (.int .u8 ((11 * (j : Int) + (r : Int) + 3) % 256))) := ⟨fun r hr => by
                rw [hcU _ (by omega)]
                simp only [List.getD, List.getElem?_append_right (Nat.le_add_right _ _), Nat.add_sub_cancel_left]
                have := P2_at j 40 r hr
                simp only [List.getD] at this
                rw [this]
                rfl⟩
              subst hva hug
              clear hcV hcU hO hl40 hv hu
              generalize (N j).length = n at *
              go_wp2_with fail
              go_loopw [10] (fun x wx => ∃ k d : Nat, x = .int .i64 k ∧ k ≤ n ∧ wx = wr.drewN d) (fun x _ => n - (intOf x).toNat)
              case atStart => exact ⟨0, dd, rfl, Nat.zero_le _, rfl⟩
              case round =>
                obtain ⟨k, d2, rfl, hk, rfl⟩ := hrel
                by_cases hkn : k < n
                · have hkn' : (k : Int) < (n : Int) := by omega
                  obtain ⟨gv, hgv, cG⟩ := CV.it k hkn
                  subst hgv
                  go_wp2_with fail
                  exact ⟨⟨k + 1, d2, by go_num, by omega, rfl⟩, by simp [intOf]; omega⟩
                · go_wp2_with fail
                  go_loopw [11] (fun x wx => ∃ k d : Nat, x = .int .i64 k ∧ k ≤ 40 ∧ wx = wr.drewN d) (fun x _ => 40 - (intOf x).toNat)
                  case atStart => exact ⟨0, d2, rfl, Nat.zero_le _, rfl⟩
                  case round =>
                    obtain ⟨r, d3, rfl, hr, rfl⟩ := hrel
                    by_cases hr40 : r < 40
                    · have hr' : (r : Int) < 40 := by omega
                      have hlen : ((n : Int) + (r : Int)) < ((n + 40 : Nat) : Int) := by omega
                      have cU := CU.it r hr40
                      go_wp2_with fail
                      go_quiet (fail)
                      go_wp2_with fail
                      exact ⟨⟨r + 1, _, by go_num, by omega, rfl⟩, by simp [intOf]; omega⟩
                    · obtain rfl : r = 40 := by omega
                      clear CU CV
                      go_wp2_with fail
                      exact ⟨⟨j + 1, _, by go_num, by omega, rfl⟩, by simp [intOf]; omega⟩
            · go_wp2_with fail
              go_ret
              exact ⟨rfl, below_drewN A3.it.below _, A3.it.kp.drewN _⟩

theorem apart_walk (B : Nat) (w : World) (own : Nat → Nat) (p c0 : Nat) (vs : List Value) (M : Nat → List Int) (hB : B ≤ w.heap.size) (hP : OutP w p vs) (hpo : own p = 0) (hK : vs.length ≤ 1000) (hc0 : vs.length ≤ c0)
    (hrows : ∀ j v, vs[j]? = some v → OwnB B w v (M j) ∧ Mine own (j + 1) v ∧ (M j).length ≤ 140737488355000) :
    Calls Tryd.prog 27 #[.slice (some ⟨p, 0, none⟩) vs.length c0] w fun e w' => e = .returned (.bool true) ∧ Below B w w' :=
  (apart_walkK B w own p c0 vs M hB hP hpo hK hc0 hrows).mono fun _ _ h => ⟨h.1, h.2.1⟩
end Go.Proofs.YteghehhifebhcaaDoor
