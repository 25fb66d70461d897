/-
  package ring at int: Push
-/
import Derived.Test.YtkmijhfimkcoiaaDoorRingDint
import Derived.Deep.DeepCutAuto
namespace Go.Proofs.YtkmijhfimkcoiaaDoor.Rint
open Go.RowKit

theorem min_val (cap held l : Nat) (h : held ≤ cap) : (if (cap : Int) - held < (l : Int) then (cap : Int) - held else (l : Int)) = ((Nat.min l (cap - held) : Nat) : Int) := by
  simp only [Nat.min_def]
  split <;> split <;> omega
/-- Push of nothing, or into no room -/
theorem push_zero (w : World) (x : Value) (a : Option Addr) (c l : Nat) (cap held : Nat) (hh : held ≤ cap) (hcap : cap ≤ 2147483647) (h0 : Nat.min l (cap - held) = 0)
    (h1 : Calls Tryd.prog 25 #[x] w fun e w' => e = .returned (.int .i64 cap) ∧ w' = w)
    (h2 : Calls Tryd.prog 17 #[x] w fun e w' => e = .returned (.int .i64 held) ∧ w' = w) :
    Calls Tryd.prog 8 #[x, .slice a l c] w fun e w' => e = .returned (.int .i64 0) ∧ w' = w := by
  have F := hide (free_any w x cap held hh hcap h1 h2)
  have h0' : l = 0 ∨ held = cap := by
    simp only [Nat.min_def] at h0
    split at h0 <;> omega
  clear h1 h2 h0
  rcases h0' with rfl | rfl
  · go_enter Tryd.func8, Tryd.ntmps8
    go_wp2_with fail
    refine F.out.mono ?_
    rintro e w' ⟨rfl, rfl⟩
    go_wp2
    all_goals first
      | (go_ret; exact ⟨rfl, rfl⟩)
      | (exfalso; omega)
  · rw [Int.sub_self] at F
    go_enter Tryd.func8, Tryd.ntmps8
    go_wp2_with fail
    refine F.out.mono ?_
    rintro e w' ⟨rfl, rfl⟩
    go_wp2
    all_goals first
      | (go_ret; exact ⟨rfl, rfl⟩)
      | (exfalso; omega)
theorem push_in (w : World) (p cap : Nat) (items : List Value) (v : Value) (first : Nat) (vals : List Value) (h : RingIn w p cap items v first vals) (src : Value) (xs : List Value) (hx : ReadsOff (fun k => k = p ∨ v.ownBlock = some k) w src xs)
    (hlx : xs.length ≤ 9223372036854775807) (t : Nat) (ht : t = Nat.min xs.length (cap - items.length)) (h0 : 0 < t) (hone : ∀ u ∈ xs, u.oneCell' = true) :
    Calls Tryd.prog 8 #[.pointer (some ⟨p, 0, none⟩), src] w fun e w' => e = .returned (.int .i64 t) ∧ (∃ v' first' vals', Hid (RingIn w' p cap (items ++ xs.take t) v' first' vals') ∧
      Hid (∀ k, v'.ownBlock = some k → v.ownBlock = some k ∨ w.heap.size ≤ k)) ∧ Hid (Keeps (fun k => k = p ∨ v.ownBlock = some k) w w') := by
  have hcap := h.most
  have hlen := h.len
  have F := hide (free_any w (.pointer (some ⟨p, 0, none⟩)) cap items.length hlen hcap (cap_at w p cap v first _ h.cells) (len_at w p cap v first _ h.cells))
  obtain ⟨a, c, rfl, hlc, hcell⟩ := id hx
  have htx : t ≤ xs.length := by rw [ht]; exact Nat.min_le_left _ _
  have htc : items.length + t ≤ cap := by have : t ≤ cap - items.length := by rw [ht]; exact Nat.min_le_right _ _
                                          omega
  obtain ⟨ad, rfl⟩ : ∃ ad, a = some ad := by
    have h1 : 0 < xs.length := by omega
    obtain ⟨ad, had, _⟩ := hcell 0 _ (List.getElem?_eq_getElem h1)
    exact ⟨ad, had⟩
  have GR := hide (grow_in w p cap items v first vals (items.length + t) h (by omega) htc)
  have c3 : w.cell? ⟨p, 3, none⟩ = some (.int .i64 items.length) := by rw [h.cells.cell]; rfl
  have mv : ((cap : Int) - items.length < xs.length ∧ (cap : Int) - items.length = t) ∨ ((xs.length : Int) ≤ (cap : Int) - items.length ∧ (xs.length : Int) = t) := by
    rw [ht]
    simp only [Nat.min_def]
    split <;> omega
  have MV := hide mv
  have HH := hide h
  have HX := hide hx
  have HO := hide hone
  obtain ⟨l, hl⟩ : ∃ l, l = xs.length := ⟨_, rfl⟩
  obtain ⟨m, hm⟩ : ∃ m, m = items.length := ⟨_, rfl⟩
  have HL := hide hl
  have HM := hide hm
  rw [← hl] at MV hlc htx hlx ⊢
  rw [← hm] at MV F GR c3 hlen htc
  clear h hx hone hcell mv ht hl hm
  go_enter Tryd.func8, Tryd.ntmps8
  go_upto_region 1 with fail
  go_cut [5] (fun c wx => c = .int .i64 t ∧ wx = w)
  · go_wp2_with fail
    refine F.out.mono ?_
    rintro e w' ⟨rfl, rfl⟩
    go_wp2
    all_goals
      have := MV.out
      go_meet
      refine ⟨?_, rfl⟩
      show Value.int .i64 _ = Value.int .i64 _
      congr 1
      omega
  · clear F MV
    go_wp2_with fail
    rw [show (m : Int) + t = ((m + t : Nat) : Int) from by omega]
    refine GR.out.mono ?_
    rintro e w2 ⟨rfl, ⟨v2, first2, vals2, hr2, hn2, ho2⟩, hk2⟩
    obtain ⟨g, rfl, hg2⟩ : ∃ g, v2 = .slice (some ⟨g, 0, none⟩) vals2.length vals2.length ∧ Cells w2 g 3 vals2 := by
      have hn := hn2.out
      rcases hr2.out.row with ⟨_, rfl⟩ | hx
      · rw [List.length_nil] at hn; omega
      · exact hx
    obtain ⟨n, hn⟩ : ∃ n, n = vals2.length := ⟨_, rfl⟩
    have hmt : m + t ≤ n := by have := hn2.out; omega
    have hnc : n ≤ cap := by have := hr2.out.fits; omega
    have hf : first2 < n := by
      rcases hr2.out.start with hx | ⟨hx, _⟩
      · omega
      · rw [hx, List.length_nil] at hn; omega
    obtain ⟨q, hq⟩ : ∃ q, q = pl first2 n m := ⟨_, rfl⟩
    have hqn : q < n := by subst hq; unfold pl; split <;> omega
    have hqn' : ¬ n = q := by omega
    obtain ⟨n1, hn1⟩ : ∃ n1, n1 = Nat.min t (n - q) := ⟨_, rfl⟩
    have hn1t : n1 ≤ t := by rw [hn1]; exact Nat.min_le_left _ _
    have hgp : g ≠ p := fun e => hr2.out.apart (by subst e; rfl)
    have hp2 : Cells w2 p 63 (ringCells cap (.slice (some ⟨g, 0, none⟩) n n) first2 m) := by
      have := hr2.out.cells
      rw [← hn, ← HM.out] at this
      exact this
    have d1 : w2.cell? ⟨p, 1, none⟩ = some (.slice (some ⟨g, 0, none⟩) n n) := by rw [hp2.cell]; rfl
    have d3 : w2.cell? ⟨p, 3, none⟩ = some (.int .i64 m) := by rw [hp2.cell]; rfl
    have PL := place_at w2.drew p cap (some ⟨g, 0, none⟩) n n first2 m m hp2.drew (by omega) (by omega)
    rw [← hq] at PL
    have PLH := hide PL
    -- what is pushed, where it is read
    have hx2 := HX.out.later (hk2.out.mono (S' := fun k => k = p ∨ v.ownBlock = some k) (fun k e _ => .inl e))
    have src : ∀ j u, (xs.take t)[j]? = some u → ad.block ≠ g ∧ ad.block ≠ p ∧ w2.cell? (ad.add j) = some u := by
      intro j u hj
      rw [List.getElem?_take] at hj
      split at hj
      · obtain ⟨a', c', he, _, hc'⟩ := hx2
        obtain ⟨x, hx, hno, hce⟩ := hc' j u hj
        have e1 : (some ad : Option Addr) = a' := by injection he
        have e2 : ad = x := by rw [hx] at e1; injection e1
        subst e2
        refine ⟨fun e => ?_, fun e => hno (.inl (.inl e)), hce⟩
        subst e
        rcases ho2.out ad.block rfl with hy | hy
        · exact hno (.inl (.inr hy))
        · exact hno (.inr hy)
      · cases hj
    obtain ⟨cs1, hs1⟩ : ∃ cs1, cs1 = (xs.take t).take n1 := ⟨_, rfl⟩
    obtain ⟨cs2, hs2⟩ : ∃ cs2, cs2 = (xs.take t).drop n1 := ⟨_, rfl⟩
    have hxl := HL.out
    have l1 : cs1.length = n1 := by subst hs1; simp; omega
    have l2 : cs2.length = t - n1 := by subst hs2; simp; omega
    have o1 : ∀ u ∈ cs1, u.oneCell' = true := fun u hu => HO.out u (by subst hs1; exact List.mem_of_mem_take (List.mem_of_mem_take hu))
    have o2 : ∀ u ∈ cs2, u.oneCell' = true := fun u hu => HO.out u (by subst hs2; exact List.mem_of_mem_take (List.mem_of_mem_drop hu))
    have hq1 : q + n1 ≤ n := by have : n1 ≤ n - q := by rw [hn1]; exact Nat.min_le_right _ _
                                omega
    obtain ⟨w3, r3, c3', k3⟩ := run_copyK (P := Tryd.prog) w2.drew 27 27 3 Tryd.underlying27 isz (some ⟨g, q, none⟩) (some ad) (n - q) (n - q) t c g q vals2 3 hg2.drew cs1 (by rw [l1, hn1]) (fun _ => ⟨rfl, ad, rfl, fun j u hj => by
      rw [hs1, List.getElem?_take] at hj
      split at hj
      · exact (src j u hj).2.2
      · cases hj⟩) (by omega) o1
    rw [l1] at r3
    have hg3 : (splice vals2 q cs1).length = n := by rw [length_splice _ _ _ (by omega)]; exact hn.symm
    have p3 : Cells w3 p 63 (ringCells cap (.slice (some ⟨g, 0, none⟩) n n) first2 m) := hp2.drew.later k3 (fun e => hgp e.symm)
    have p2 : 0 < cs2.length → ∃ x, (if c = n1 then (some ad : Option Addr) else some (ad.add n1)) = some x ∧ ∀ j u, cs2[j]? = some u → w3.drew.cell? (x.add j) = some u := by
      intro hpos
      rw [l2] at hpos
      refine ⟨ad.add n1, if_neg (by omega), fun j u hj => ?_⟩
      rw [hs2, List.getElem?_drop] at hj
      obtain ⟨b1, b2, b3⟩ := src (n1 + j) u hj
      rw [add_add]
      have hlt := World.block_lt_of_cell? w2 _ b3
      rw [show w3.drew.cell? (ad.add (n1 + j)) = w3.cell? (ad.add (n1 + j)) from rfl, World.cell?_of_block (w := w2.drew) (k3.block _ hlt (by rw [add_block]; exact b1))]
      exact b3
    have fin : ∀ w', Cells w' p 63 (ringCells cap (.slice (some ⟨g, 0, none⟩) n n) first2 (m + t)) → Cells w' g 3 (splice (splice vals2 q cs1) 0 cs2) → RingIn w' p cap (items ++ xs.take t) (.slice (some ⟨g, 0, none⟩) n n) first2 (splice (splice vals2 q cs1) 0 cs2) := by
      intro w' hc hr
      have hlv : (splice (splice vals2 q cs1) 0 cs2).length = n := by rw [length_splice _ _ _ (by omega)]; exact hg3
      have hlx' : (xs.take t).length = t := by simp; omega
      have hli : (items ++ xs.take t).length = m + t := by rw [List.length_append, hlx', ← HM.out]
      refine ⟨by rw [hli]; exact hc, .inr ⟨g, by rw [hlv], hr⟩, hr2.out.apart, by omega, hcap, by omega, by left; omega, ?_, ?_⟩
      · intro x hx
        rcases splice_mem hx with hx | hx
        · rcases splice_mem hx with hx | hx
          · exact hr2.out.one x hx
          · exact o1 x hx
        · exact o2 x hx
      · intro i hi
        rw [hli] at hi
        rw [hlv, splice_get _ _ _ (by omega), splice_get _ _ _ (by omega), l1, l2]
        by_cases him : i < m
        · rw [List.getElem?_append_left (by rw [← HM.out]; exact him), hr2.out.holds i (by rw [← HM.out]; exact him), ← hn]
          have hn1' : n1 = t ∨ n1 = n - q := by
            rw [hn1]; simp only [Nat.min_def]; split <;> omega
          unfold pl at hq ⊢
          split at hq <;> split <;> (rw [if_neg (by omega)]) <;> rcases hn1' with e | e <;> (repeat rw [if_neg (by omega)]) <;> (try rw [if_pos (by omega)]) <;> rfl
        · obtain ⟨j, rfl⟩ : ∃ j, i = m + j := ⟨i - m, by omega⟩
          rw [List.getElem?_append_right (by rw [← HM.out]; omega), ← HM.out, show m + j - m = j by omega, hs1, hs2]
          have hn1' : (n1 = t ∧ t ≤ n - q) ∨ (n1 = n - q ∧ n - q < t) := by
            rw [hn1]; simp only [Nat.min_def]; split <;> omega
          by_cases hj : j < n1
          · have e : pl first2 n (m + j) = q + j := by
              unfold pl at hq ⊢; split at hq <;> split <;> omega
            rw [e, if_neg (by omega), if_neg (by omega), if_neg (by omega), if_pos (by omega), show q + j - q = j by omega]
            exact (List.getElem?_take_of_lt hj).symm
          · have e : pl first2 n (m + j) = j - n1 := by
              unfold pl at hq ⊢; split at hq <;> split <;> omega
            rw [e, if_neg (by omega), if_pos (by omega), List.getElem?_drop, show n1 + (j - n1 - 0) = j by omega]
    have f3 := p3.frozen 3
    have e1 : w3.cell? ⟨p, 1, none⟩ = some (.slice (some ⟨g, 0, none⟩) n n) := by rw [p3.cell]; rfl
    have e1' : w3.drew.cell? ⟨p, 1, none⟩ = some (.slice (some ⟨g, 0, none⟩) n n) := e1
    have htcc : t ≤ c := by omega
    have hn1i : (n1 : Int) ≤ (t : Int) := by omega
    have htci : (t : Int) ≤ (c : Int) := by omega
    have lmin : cs2.length = Nat.min (t - n1) n := by
      rw [l2]
      show t - n1 = min (t - n1) n
      omega
    have FIN := hide fin
    have P2 : Aside (0 < cs2.length → ∃ x, (if c = n1 then (some ad : Option Addr) else some (ad.add n1)) = some x ∧ ∀ j u, cs2[j]? = some u → w3.drew.cell? (x.add j) = some u) := ⟨p2⟩
    have P3 := hide p3
    have C3 := hide c3'
    have K3 := hide k3
    have L2 := hide l2
    have LMIN := hide lmin
    have O2 := hide o2
    have HG3 := hide hg3
    have R3 : Aside (∀ ty, (Builtin.copy_ #[27, 27] ty #[.slice (some ⟨g, q, none⟩) (n - q) (n - q), .slice (some ad) t c]).run Tryd.prog w2.drew = .ok (.int .i64 n1) w3) := ⟨r3⟩
    clear GR hg2 hn hq hn1 hx2 src hs1 hs2 hxl l1 l2 lmin o1 o2 hq1 fin p2 p3 c3' k3 hg3 hp2 PL r3 c3
    go_wp2_with fail
    go_region_held_law (fun w' => w'.cell? ⟨p, 1, none⟩ = some (.slice (some ⟨g, 0, none⟩) n n) ∧ w'.cell? ⟨p, 3, none⟩ = some (.int .i64 m)) (exact ⟨d1, d3⟩) ((go_at_call 28; refine PLH.out.mono ?_; rintro e w5 ⟨rfl, rfl⟩))
    go_upto_region 6 with fail
    have r3 := R3.it
    go_upto_region 7 with fail
    clear r3
    go_region_held_law (fun w' => w'.cell? ⟨p, 1, none⟩ = some (.slice (some ⟨g, 0, none⟩) n n)) (first | exact e1' | exact h4) ((refine step_copyK 47 rfl rfl (.tmp 42) (.tmp 46) 27 27 rfl 3 Tryd.underlying27 isz _ _ _ _ _ _ rfl rfl g 0 (splice vals2 q cs1) 3 C3.out.drew cs2 LMIN.out (fun h => ⟨rfl, P2.it h⟩) _ L2.out (by have := HG3.out; have := L2.out; omega) O2.out ?_; intro w4 c4 k4; have p4 := P3.out.drew.later k4.out (fun e => hgp e.symm); have h4 : w4.cell? ⟨p, 1, none⟩ = some (.slice (some ⟨g, 0, none⟩) n n) := (by rw [p4.cell]; rfl)))
    have d4 : w4.cell? ⟨p, 3, none⟩ = some (.int .i64 m) := by rw [p4.cell]; rfl
    have f4 := p4.frozen 3
    have P4 := hide p4
    clear p4
    go_wp2
    all_goals
      go_ret
      have hf := FIN.out (w4.setCell ⟨p, 3, none⟩ (.int .i64 ((m + t : Nat) : Int))) (P4.out.setCell 3 _) (c4.out.setOther _ _ hgp)
      rw [show ((m + t : Nat) : Int) = (m : Int) + t by omega] at hf
      refine ⟨rfl, ?_, ?_⟩
      · first
        | exact ⟨_, _, _, hf, ho2⟩
        | exact ⟨_, ⟨_, _, hf⟩, ho2⟩
      have kk : Keeps (fun k => k = p ∨ k = g) w2 w4 := (K3.out.undrew.mono (fun k e _ => .inr e)).next k4.out.undrew (fun k e _ => .inr e)
      refine (((hk2.out.mono (S' := fun k => k = p ∨ v.ownBlock = some k) (fun k e _ => .inl e)).next kk ?_).setCell ⟨p, 3, none⟩ _ (fun _ => .inl rfl) : Keeps _ _ _)
      rintro k (e | e) hk
      · exact .inl e
      · subst e
        rcases ho2.out k rfl with hy | hy
        · exact .inr hy
        · omega
end Go.Proofs.YtkmijhfimkcoiaaDoor.Rint
