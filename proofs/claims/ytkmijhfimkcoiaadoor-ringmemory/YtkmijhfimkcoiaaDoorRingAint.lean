/-
  package ring at int: what a ring is in memory; the calls that only read; copyTo
-/
import Derived.Test.YtkmijhfimkcoiaaDoorProg
import Derived.Test.YtkmijhfimkcoiaaDoorBase
import Derived.BigQuiet
import Derived.Deep.RegionHeldLaw
import Derived.Deep.Cut
namespace Go.Proofs.YtkmijhfimkcoiaaDoor.Rint
open Go.RowKit

/-- the ring's own cells -/
def ringCells (cap : Nat) (v : Value) (first held : Nat) : List Value := [.int .i64 cap, v, .int .i64 first, .int .i64 held]

theorem info : (Tryd.prog.info? 3).map (fun i => (i.zero, i.size, i.bytes)) = some (some (.int .i64 0), 1, 8) := by kernel_rfl
theorem isz : (Tryd.prog.info? 3).map (·.size) = some 1 := by kernel_rfl
theorem zv : ∀ w, (zeroValue 3).run Tryd.prog w = .ok (.int .i64 0) w := by
  intro w
  kernel_rfl

theorem cap_nil (w : World) : Calls Tryd.prog 25 #[.pointer none] w fun e w' => e = .returned (.int .i64 0) ∧ w' = w := by
  go_enter Tryd.func25, Tryd.ntmps25
  go_wp2
  go_ret
  exact ⟨rfl, rfl⟩
theorem len_nil (w : World) : Calls Tryd.prog 17 #[.pointer none] w fun e w' => e = .returned (.int .i64 0) ∧ w' = w := by
  go_enter Tryd.func17, Tryd.ntmps17
  go_wp2
  go_ret
  exact ⟨rfl, rfl⟩
theorem cap_at (w : World) (p cap : Nat) (v : Value) (first held : Nat) (h : Cells w p 63 (ringCells cap v first held)) :
    Calls Tryd.prog 25 #[.pointer (some ⟨p, 0, none⟩)] w fun e w' => e = .returned (.int .i64 cap) ∧ w' = w := by
  have c0 : w.cell? ⟨p, 0, none⟩ = some (.int .i64 cap) := by rw [h.cell]; rfl
  go_enter Tryd.func25, Tryd.ntmps25
  go_wp2
  go_ret
  exact ⟨rfl, rfl⟩
theorem len_at (w : World) (p cap : Nat) (v : Value) (first held : Nat) (h : Cells w p 63 (ringCells cap v first held)) :
    Calls Tryd.prog 17 #[.pointer (some ⟨p, 0, none⟩)] w fun e w' => e = .returned (.int .i64 held) ∧ w' = w := by
  have c3 : w.cell? ⟨p, 3, none⟩ = some (.int .i64 held) := by rw [h.cell]; rfl
  go_enter Tryd.func17, Tryd.ntmps17
  go_wp2
  go_ret
  exact ⟨rfl, rfl⟩
/-- Cap, Len, Free by their contracts, whatever the pointer -/
theorem free_any (w : World) (x : Value) (cap held : Nat) (hc : held ≤ cap) (hcap : cap ≤ 2147483647)
    (h1 : Calls Tryd.prog 25 #[x] w fun e w' => e = .returned (.int .i64 cap) ∧ w' = w)
    (h2 : Calls Tryd.prog 17 #[x] w fun e w' => e = .returned (.int .i64 held) ∧ w' = w) :
    Calls Tryd.prog 18 #[x] w fun e w' => e = .returned (.int .i64 ((cap : Int) - held)) ∧ w' = w := by
  have k1 := Hid.out (p := True) trivial
  go_enter Tryd.func18, Tryd.ntmps18
  go_wp2_with fail
  refine h1.mono ?_
  rintro e w' ⟨rfl, rfl⟩
  go_wp2_with fail
  refine h2.mono ?_
  rintro e w' ⟨rfl, rfl⟩
  go_wp2
  go_ret
  exact ⟨rfl, rfl⟩
theorem within_any (w : World) (x : Value) (n : Int) (held m : Nat) (hcap : held ≤ 2147483647) (hm : m = Nat.min n.toNat held)
    (h2 : Calls Tryd.prog 17 #[x] w fun e w' => e = .returned (.int .i64 held) ∧ w' = w) :
    Calls Tryd.prog 30 #[x, .int .i64 n] w fun e w' => e = .returned (.int .i64 m) ∧ w' = w := by
  have hm' : (n ≤ 0 ∧ m = 0) ∨ (0 < n ∧ n ≤ held ∧ (m : Int) = n) ∨ (0 < n ∧ (held : Int) < n ∧ m = held) := by
    subst hm
    simp only [Nat.min_def]
    split <;> omega
  have HM := hide hm'
  clear hm hm'
  go_enter Tryd.func30, Tryd.ntmps30
  go_wp2_with fail
  refine h2.mono ?_
  rintro e w' ⟨rfl, rfl⟩
  go_wp2
  all_goals
    rename_i q
    have := HM.out
    go_ret
    refine ⟨?_, rfl⟩
    refine congrArg Ending.returned ?_
    show Value.int .i64 _ = Value.int .i64 _
    congr 1
    by_cases hx : (held : Int) < n
    · simp only [if_pos hx] at q
      omega
    · simp only [if_neg hx] at q
      omega
theorem place_at (w : World) (p cap : Nat) (x : Option Addr) (c n : Nat) (first held i : Nat) (h : Cells w p 63 (ringCells cap (.slice x n c) first held)) (hi : first + i < 9223372036854775807) (hn : n < 9223372036854775807) :
    Calls Tryd.prog 28 #[.pointer (some ⟨p, 0, none⟩), .int .i64 i] w fun e w' => e = .returned (.int .i64 (pl first n i : Nat)) ∧ w' = w := by
  have c1 : w.cell? ⟨p, 1, none⟩ = some (.slice x n c) := by rw [h.cell]; rfl
  have c2 : w.cell? ⟨p, 2, none⟩ = some (.int .i64 first) := by rw [h.cell]; rfl
  clear h
  by_cases hl : first + i < n
  · have hpl : pl first n i = first + i := if_pos hl
    rw [hpl]
    go_enter Tryd.func28, Tryd.ntmps28
    go_wp2
    go_ret
    exact ⟨by go_num, rfl⟩
  · have hpl : pl first n i = first + i - n := if_neg hl
    rw [hpl]
    go_enter Tryd.func28, Tryd.ntmps28
    go_wp2
    go_ret
    exact ⟨by go_num, rfl⟩
theorem copyTo_keep {w w' : World} {p cap : Nat} {v : Value} {first held g0 : Nat} (h : Cells w p 63 (ringCells cap v first held)) (hk : Keeps (fun k => k = g0) w w') (hp : p ≠ g0) :
    w'.cell? ⟨p, 1, none⟩ = some v ∧ w'.cell? ⟨p, 2, none⟩ = some (.int .i64 first) := by
  have := h.later hk hp
  rw [this.cell, this.cell]
  exact ⟨rfl, rfl⟩
theorem copyTo_cells {w : World} {p cap : Nat} {v : Value} {first held : Nat} (h : Cells w p 63 (ringCells cap v first held)) :
    w.cell? ⟨p, 1, none⟩ = some v ∧ w.cell? ⟨p, 2, none⟩ = some (.int .i64 first) := by
  rw [h.cell, h.cell]
  exact ⟨rfl, rfl⟩
theorem copyTo_cells0 {w : World} {p cap : Nat} {v : Value} {held : Nat} (h : Cells w p 63 (ringCells cap v 0 held)) :
    w.cell? ⟨p, 1, none⟩ = some v ∧ w.cell? ⟨p, 2, none⟩ = some (.int .i64 0) := copyTo_cells h
theorem copyTo_keep0 {w w' : World} {p cap : Nat} {v : Value} {held g0 : Nat} (h : Cells w p 63 (ringCells cap v 0 held)) (hk : Keeps (fun k => k = g0) w w') (hp : p ≠ g0) :
    w'.cell? ⟨p, 1, none⟩ = some v ∧ w'.cell? ⟨p, 2, none⟩ = some (.int .i64 0) := copyTo_keep h hk hp
theorem copyTo_at (w : World) (p cap : Nat) (v : Value) (first held : Nat) (vals : List Value) (h : Cells w p 63 (ringCells cap v first held)) (hv : RowAt w 3 v vals) (g0 : Nat) (cur : List Value) (m c : Nat)
    (hg : Cells w g0 3 cur) (hgp : g0 ≠ p) (hgv : v.ownBlock ≠ some g0) (hm : m ≤ cur.length) (hmc : m ≤ c) (hmv : m ≤ vals.length) (hf : first < vals.length ∨ vals = [] ∧ first = 0) (hl : vals.length ≤ 2147483647) (h1 : ∀ x ∈ vals, x.oneCell' = true) :
    Calls Tryd.prog 31 #[.pointer (some ⟨p, 0, none⟩), .slice (some ⟨g0, 0, none⟩) m c] w fun e w' =>
      e = .returned (.tuple #[]) ∧ Hid (Cells w' g0 3 (splice cur 0 ((vals.drop first ++ vals).take m))) ∧ Hid (Keeps (fun k => k = g0) w w') := by
  have c1 : w.cell? ⟨p, 1, none⟩ = some v := by rw [h.cell]; rfl
  have c2 : w.cell? ⟨p, 2, none⟩ = some (.int .i64 first) := by rw [h.cell]; rfl
  have HP := hide h
  have HG := hide hg
  clear h hg
  have hsp : (∃ x, v = .slice x 0 0 ∧ vals = [] ∧ first = 0) ∨ ∃ g, v = .slice (some ⟨g, 0, none⟩) vals.length vals.length ∧ Cells w g 3 vals ∧ first < vals.length := by
    rcases hv with ⟨rfl, rfl⟩ | ⟨g, rfl, hc⟩
    · exact .inl ⟨_, rfl, rfl, by simpa using hf⟩
    · rcases hf with hf | ⟨rfl, rfl⟩
      · exact .inr ⟨g, rfl, hc, hf⟩
      · exact .inl ⟨_, rfl, rfl, rfl⟩
  clear hv hf
  rcases hsp with ⟨x, rfl, rfl, rfl⟩ | ⟨g, rfl, hc, hf⟩
  · obtain rfl : m = 0 := by simpa using hmv
    have c2' : w.cell? ⟨p, 2, none⟩ = some (.int .i64 0) := c2
    clear c2 hm hmc hmv hl h1 hgv
    go_enter Tryd.func31, Tryd.ntmps31
    go_wp2_with fail
    go_region_held_law (fun w' => w'.cell? ⟨p, 1, none⟩ = some (.slice x 0 0) ∧ w'.cell? ⟨p, 2, none⟩ = some (.int .i64 0)) (first | exact ⟨c1, c2'⟩ | exact d1) ((refine step_copyK 15 rfl rfl (.tmp 5) (.tmp 14) 27 27 rfl 3 Tryd.underlying27 isz _ _ _ _ _ _ rfl rfl g0 0 cur 3 (HG.out.drew) [] rfl (fun h => absurd h (by decide)) 0 rfl (Nat.zero_le _) (fun v hv => by cases hv) ?_; intro w1 hc1 hk1; have d1 := copyTo_keep0 HP.out.drew hk1.out hgp.symm; have e1 := copyTo_cells0 ((HP.out.drew.later hk1.out hgp.symm).drew)))
    go_wp2_with fail
    go_region_held_law (fun w' => w'.cell? ⟨p, 1, none⟩ = some (.slice x 0 0)) (first | exact e1.1 | exact d2.1) ((refine step_copyK 23 rfl rfl (.tmp 18) (.tmp 22) 27 27 rfl 3 Tryd.underlying27 isz _ _ _ _ _ _ rfl rfl g0 0 cur 3 (show Cells w1 g0 3 cur by have := hc1.out; simpa [splice] using this).drew [] rfl (fun h => absurd h (by decide)) 0 rfl (Nat.zero_le _) (fun v hv => by cases hv) ?_; intro w2 hc2 hk2; have d2 := copyTo_keep0 ((HP.out.drew.later hk1.out hgp.symm).drew) hk2.out hgp.symm))
    go_wp2
    go_end0
    exact ⟨rfl, hc2, (hk1.out.undrew.trans hk2.out.undrew : Keeps _ _ _)⟩
  · have hne : g0 ≠ g := fun e => hgv (by subst e; rfl)
    obtain ⟨n, hn⟩ : ∃ n, n = vals.length := ⟨_, rfl⟩
    obtain ⟨n1, hn1⟩ : ∃ n1, n1 = Nat.min (n - first) m := ⟨_, rfl⟩
    obtain ⟨cs1, hs1⟩ : ∃ cs1, cs1 = (vals.drop first).take m := ⟨_, rfl⟩
    obtain ⟨cs2, hs2⟩ : ∃ cs2, cs2 = vals.take (m - n1) := ⟨_, rfl⟩
    rw [← hn] at c1 hf hmv hl
    have hfin : splice (splice cur 0 cs1) n1 cs2 = splice cur 0 ((vals.drop first ++ vals).take m) := by
      have l1 : cs1.length = n1 := by subst hs1 hn1; simp [← hn, Nat.min_comm]
      have q1 : n1 ≤ m := by subst hn1; exact Nat.min_le_right _ _
      rw [splice_splice _ _ _ _ _ (by omega) (by omega), List.take_append, hs1, hs2]
      congr 2
      simp only [List.length_drop, ← hn]
      congr 1
      subst hn1
      simp only [Nat.min_def]
      split <;> omega
    have l1 : cs1.length = Nat.min (n - first) m := by subst hs1; simp [← hn, Nat.min_comm]
    have l1' : cs1.length = n1 := by rw [hn1]; exact l1
    have l2 : cs2.length = Nat.min n (m - n1) := by subst hs2; simp [← hn, Nat.min_comm]
    have l2' : cs2.length = m - n1 := by subst hs2; simp [← hn]; omega
    have hn1m : n1 ≤ m := by subst hn1; exact Nat.min_le_right _ _
    have p1 : 0 < cs1.length → ∀ j v, cs1[j]? = some v → w.drew.cell? ((⟨g, first, none⟩ : Addr).add j) = some v := by
      intro h0
      intro j v hj
      rw [add_at, hc.drew.cell]
      rw [hs1, List.getElem?_take, List.getElem?_drop] at hj
      split at hj
      · exact hj
      · cases hj
    have f1 : 0 + cs1.length ≤ cur.length := by rw [l1']; omega
    have f2 : n1 + cs2.length ≤ (splice cur 0 cs1).length := by rw [length_splice _ _ _ f1, l2']; omega
    have o1 : ∀ x ∈ cs1, x.oneCell' = true := fun x hx => h1 x (by subst hs1; exact List.mem_of_mem_drop (List.mem_of_mem_take hx))
    have o2 : ∀ x ∈ cs2, x.oneCell' = true := fun x hx => h1 x (by subst hs2; exact List.mem_of_mem_take hx)
    have p2 : ∀ w1 : World, Cells w1 g 3 vals → 0 < cs2.length → (if c = n1 then (some ⟨g0, 0, none⟩ : Option Addr) else some ⟨g0, n1, none⟩) = some ⟨g0, n1, none⟩ ∧ ∀ j v, cs2[j]? = some v → w1.drew.cell? ((⟨g, 0, none⟩ : Addr).add j) = some v := by
      intro w1 hc1 h0
      rw [l2'] at h0
      refine ⟨if_neg (by omega), fun j v hj => ?_⟩
      rw [add_at, hc1.drew.cell]
      rw [hs2, List.getElem?_take] at hj
      split at hj
      · simpa using hj
      · cases hj
    have hnf : ¬ n = first := by omega
    have HC := hide hc
    have HF := hide hfin
    have L1 := hide l1
    have L1' := hide l1'
    have L2 := hide l2
    have L2' := hide l2'
    have P1 := hide p1
    have F1 := hide f1
    have F2 := hide f2
    have O1 := hide o1
    have O2 := hide o2
    have P2 := hide p2
    have HN := hide hn
    rw [hn] at c1
    clear hgv hc hn1 h1 hs1 hs2 hfin l1 l1' l2 l2' p1 f1 f2 o1 o2 p2
    rw [← hn] at c1
    clear hn
    go_enter Tryd.func31, Tryd.ntmps31
    go_wp2_with fail
    go_region_held_law (fun w' => w'.cell? ⟨p, 1, none⟩ = some (.slice (some ⟨g, 0, none⟩) n n) ∧ w'.cell? ⟨p, 2, none⟩ = some (.int .i64 first)) (first | exact ⟨c1, c2⟩ | exact d1) ((refine step_copyK 15 rfl rfl (.tmp 5) (.tmp 14) 27 27 rfl 3 Tryd.underlying27 isz _ _ _ _ _ _ rfl rfl g0 0 cur 3 (HG.out.drew) cs1 L1.out (fun h => ⟨rfl, _, rfl, P1.out h⟩) n1 L1'.out F1.out O1.out ?_; intro w1 hc1 hk1; have d1 := copyTo_keep HP.out.drew hk1.out hgp.symm; have e1 := copyTo_cells ((HP.out.drew.later hk1.out hgp.symm).drew); rw [← HN.out] at d1 e1))
    go_wp2_with fail
    all_goals
      go_region_held_law (fun w' => w'.cell? ⟨p, 1, none⟩ = some (.slice (some ⟨g, 0, none⟩) n n)) (first | exact e1.1 | exact d2.1) ((refine step_copyK 23 rfl rfl (.tmp 18) (.tmp 22) 27 27 rfl 3 Tryd.underlying27 isz _ _ _ _ _ _ rfl rfl g0 n1 (splice cur 0 cs1) 3 hc1.out.drew cs2 L2.out (fun h => have q := P2.out w1 (HC.out.drew.later hk1.out (fun e => hne e.symm)) h; ⟨q.1, _, rfl, q.2⟩) _ L2'.out F2.out O2.out ?_; intro w2 hc2 hk2; have d2 := copyTo_keep ((HP.out.drew.later hk1.out hgp.symm).drew) hk2.out hgp.symm; rw [← HN.out] at d2))
      go_wp2
      all_goals
       go_end0
       refine ⟨rfl, ?_, (hk1.out.undrew.trans hk2.out.undrew : Keeps _ _ _)⟩
       have := hc2.out
       rw [HF.out] at this
       exact this
end Go.Proofs.YtkmijhfimkcoiaaDoor.Rint
