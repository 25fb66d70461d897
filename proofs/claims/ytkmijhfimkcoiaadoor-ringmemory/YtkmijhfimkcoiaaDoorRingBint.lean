/-
  package ring at int: the calls that move and wipe
-/
import Derived.Test.YtkmijhfimkcoiaaDoorRingAint
namespace Go.Proofs.YtkmijhfimkcoiaaDoor.Rint
open Go.RowKit

theorem zcells : ((.int .i64 0) : Value).cells = #[(.int .i64 0)] := rfl
theorem zone : ((.int .i64 0) : Value).oneCell' = true := rfl

theorem move_at (w : World) (p cap : Nat) (v : Value) (first held size : Nat) (vals : List Value) (h : Cells w p 63 (ringCells cap v first held)) (hv : RowAt w 3 v vals) (hh : held ≤ vals.length) (hs : held ≤ size)
    (hsz : size ≤ 2147483647) (hl : vals.length ≤ 2147483647) (hf : first < vals.length ∨ vals = [] ∧ first = 0) (h1 : ∀ x ∈ vals, x.oneCell' = true) :
    Calls Tryd.prog 36 #[.pointer (some ⟨p, 0, none⟩), .int .i64 size] w fun e w' =>
      e = .returned (.tuple #[]) ∧ Hid (Cells w' p 63 (ringCells cap (.slice (some ⟨w.heap.size, 0, none⟩) size size) 0 held)) ∧ Hid (Cells w' w.heap.size 3 (splice (List.replicate size (.int .i64 0)) 0 ((vals.drop first ++ vals).take held))) ∧
        Hid (Keeps (fun k => k = p) w w') := by
  obtain ⟨i0, hi, hz0, hz1, hz2⟩ := info_parts info
  obtain ⟨w1, hrun, hc1, hk1, hs1⟩ := run_makeK (P := Tryd.prog) w 27 3 i0 (.int .i64 0) Tryd.underlying27 hi hz0 hz1 zcells size (by rw [hz2]; omega) (by omega)
  have hp := h.lt
  have h' : Cells w1 p 63 (ringCells cap v first held) := h.later hk1 (fun x => x)
  have hv' : RowAt w1 3 v vals := hv.later hk1 (fun _ _ x => x)
  have hown : v.ownBlock ≠ some w.heap.size := fun e => by have := hv.lt _ e; omega
  have c3 : w1.cell? ⟨p, 3, none⟩ = some (.int .i64 held) := by rw [h'.cell]; rfl
  have HC := hide hc1
  have HK := hide hk1
  have HP := hide h'
  have HV := hide hv'
  have H1 := hide h1
  have HF := hide hf
  clear h hv hc1 hk1 h' hv' h1 hf hi hz0 hz1 hz2
  go_enter Tryd.func36, Tryd.ntmps36
  go_wp2_with fail
  refine (copyTo_at w1 p cap v first held vals HP.out HV.out w.heap.size _ held size HC.out (by omega) hown (by simpa using hs) hs hh HF.out hl H1.out).mono ?_
  rintro e w2 ⟨rfl, hc2, hk2⟩
  have h2 := HP.out.later hk2.out (by omega)
  have d1 : w2.cell? ⟨p, 1, none⟩ = some v := by rw [h2.cell]; rfl
  have d2 : w2.cell? ⟨p, 2, none⟩ = some (.int .i64 first) := by rw [h2.cell]; rfl
  have f1 := h2.frozen 1
  have f2 := h2.frozen 2
  have H2 := hide h2
  clear h2
  go_wp2
  go_end0
  refine ⟨rfl, ?_, ?_, ?_⟩
  · exact (H2.out.setCell 1 _).setCell 2 _
  · exact (hc2.out.setOther _ _ (by show w.heap.size ≠ p; omega)).setOther _ _ (by show w.heap.size ≠ p; omega)
  · exact (((HK.out.any (S := fun k => k = p)).next hk2.out (fun k e hk => by omega)).setCell _ _ (fun _ => rfl)).setCell _ _ (fun _ => rfl)
/-- wipe(k): the places of the things behind the first k are as they were -/
theorem wipe_at (w : World) (p cap g n : Nat) (first held k : Nat) (vals : List Value) (h : Cells w p 63 (ringCells cap (.slice (some ⟨g, 0, none⟩) n n) first held)) (hc : Cells w g 3 vals) (hn : vals.length = n)
    (hgp : g ≠ p) (hk : k ≤ n) (hl : n ≤ 2147483647) (hf : first < n) (h1 : ∀ x ∈ vals, x.oneCell' = true) :
    Calls Tryd.prog 34 #[.pointer (some ⟨p, 0, none⟩), .int .i64 k] w fun e w' =>
      e = .returned (.tuple #[]) ∧ (∃ vals', Hid (Cells w' g 3 vals') ∧ Hid (vals'.length = n) ∧ Hid (∀ x ∈ vals', x.oneCell' = true) ∧ Hid (∀ i, k ≤ i → i < n → vals'[pl first n i]? = vals[pl first n i]?)) ∧
        Hid (Keeps (fun x => x = g) w w') := by
  have c1 : w.cell? ⟨p, 1, none⟩ = some (.slice (some ⟨g, 0, none⟩) n n) := by rw [h.cell]; rfl
  have c2 : w.cell? ⟨p, 2, none⟩ = some (.int .i64 first) := by rw [h.cell]; rfl
  obtain ⟨n1, hn1⟩ : ∃ n1, n1 = if k ≤ n - first then k else n - first := ⟨_, rfl⟩
  obtain ⟨n2, hn2⟩ : ∃ n2, n2 = k - (n - first) := ⟨_, rfl⟩
  have q1 : first + n1 ≤ n := by subst hn1; split <;> omega
  have q2 : n2 ≤ first := by omega
  have hnf : ¬ n = first := by omega
  obtain ⟨w1, r1, e1, k1⟩ := run_clearK (P := Tryd.prog) w.drew 27 3 (.int .i64 0) Tryd.underlying27 zv zcells zone (some ⟨g, first, none⟩) n1 (n - first) g first vals 3 hc.drew (fun _ => rfl) (by omega)
  have s1 : (splice vals first (List.replicate n1 (.int .i64 0))).length = n := by rw [length_splice _ _ _ (by simp; omega)]; exact hn
  obtain ⟨w2, r2, e2, k2⟩ := run_clearK (P := Tryd.prog) w1 27 3 (.int .i64 0) Tryd.underlying27 zv zcells zone (some ⟨g, 0, none⟩) n2 n g 0 _ 3 e1 (fun _ => rfl) (by omega)
  have s2 : (splice (splice vals first (List.replicate n1 (.int .i64 0))) 0 (List.replicate n2 (.int .i64 0))).length = n := by rw [length_splice _ _ _ (by simp; omega)]; exact s1
  have d1 : w1.cell? ⟨p, 1, none⟩ = some (.slice (some ⟨g, 0, none⟩) n n) := by rw [(h.drew.later k1 (fun e => hgp e.symm)).cell]; rfl
  have hfin : ∀ i, k ≤ i → i < n → (splice (splice vals first (List.replicate n1 (.int .i64 0))) 0 (List.replicate n2 (.int .i64 0)))[pl first n i]? = vals[pl first n i]? := by
    intro i hi hin
    rw [splice_get _ _ _ (by omega), splice_get _ _ _ (by omega)]
    simp only [List.length_replicate]
    unfold pl
    subst hn1 hn2
    split
    · rw [if_neg (by omega), if_neg (by omega), if_neg (by omega), if_neg (by split <;> omega)]
    · rw [if_neg (by omega), if_neg (by omega)]
      split
      · rfl
      · rw [if_neg (by split <;> omega)]
  have hone : ∀ x ∈ (splice (splice vals first (List.replicate n1 (.int .i64 0))) 0 (List.replicate n2 (.int .i64 0))), x.oneCell' = true := by
    intro x hx
    rcases splice_mem hx with hx | hx
    · rcases splice_mem hx with hx | hx
      · exact h1 x hx
      · rw [List.eq_of_mem_replicate hx]; exact zone
    · rw [List.eq_of_mem_replicate hx]; exact zone
  have E2 := hide e2
  have S2 := hide s2
  have FIN := hide hfin
  have ONE := hide hone
  have K1 := hide k1
  have K2 := hide k2
  clear e1 e2 k1 k2 s1 s2 hfin hone h hc h1
  by_cases hle : k ≤ n - first
  · rw [if_pos hle] at hn1
    obtain rfl : n2 = 0 := by omega
    subst hn1
    clear hn2
    go_enter Tryd.func34, Tryd.ntmps34
    go_wp2_with fail
    go_region_held_law (fun w' => w'.cell? ⟨p, 1, none⟩ = some (.slice (some ⟨g, 0, none⟩) n n) ∧ w'.cell? ⟨p, 2, none⟩ = some (.int .i64 first)) (exact ⟨c1, c2⟩) (fail)
    go_wp2
    go_end0
    exact ⟨rfl, ⟨_, E2, S2, ONE, FIN⟩, K1.out.undrew.trans K2.out⟩
  · rw [if_neg hle] at hn1
    subst hn1 hn2
    go_enter Tryd.func34, Tryd.ntmps34
    go_wp2_with fail
    go_region_held_law (fun w' => w'.cell? ⟨p, 1, none⟩ = some (.slice (some ⟨g, 0, none⟩) n n) ∧ w'.cell? ⟨p, 2, none⟩ = some (.int .i64 first)) (exact ⟨c1, c2⟩) (fail)
    go_wp2
    go_end0
    exact ⟨rfl, ⟨_, E2, S2, ONE, FIN⟩, K1.out.undrew.trans K2.out⟩
end Go.Proofs.YtkmijhfimkcoiaaDoor.Rint
