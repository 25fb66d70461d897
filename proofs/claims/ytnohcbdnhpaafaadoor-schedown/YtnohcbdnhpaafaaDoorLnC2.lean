/-
  package lane: Count
-/
import Derived.Test.YtnohcbdnhpaafaaDoorLnE
namespace Go.Proofs.YtnohcbdnhpaafaaDoor
open Go.RowKit Go.Shelf Fticket
attribute [local go_sem] Oper.semAt_some

variable {A : Nat → Addr} {w w' w0 : World} {own own' : Nat → Nat} {i p fp mb m : Nat} {I : Nat → Prop} {F : Int → Nat → Option Nat} {Z : Zs}

def cntK (kind : Int) (L : List Tk) : Nat := L.countP (fun t => decide (t.k = kind))
set_option maxRecDepth 8000 in
set_option maxHeartbeats 1000000 in
theorem count_of (x fv : Value) (kind : Int) (Z : Zs) (hZ : Z.length * 16 ≤ 140737488355328) (T : ∀ y ∈ Z, Cells w y.1 29 (tcells y.2))
    (QU : ∀ W, Keeps Nowhere w W → Calls Tryd.prog 53 #[x] W fun e w' => e = .returned fv ∧ w' = W)
    (AL : ∀ W, Keeps Nowhere w W → Calls Tryd.prog 54 #[fv] W fun e w' => ∃ b, e = .returned (.func (.func 70) #[] #[.pointer (some ⟨b, 0, none⟩)]) ∧ Aside (WalkAt W.heap.size w' (.func (.func 70) #[] #[.pointer (some ⟨b, 0, none⟩)]) (qz Z)) ∧ Aside (Keeps Nowhere W w')) :
    Calls Tryd.prog 46 #[x, .int .i64 kind] w fun e w' => e = .returned (.int .i64 (cntK kind (Z.map (·.2)))) ∧ Aside (Keeps Nowhere w w') := by
  obtain ⟨W0, hW0⟩ : ∃ W0, W0 = (w.alloc (.cells #[.int .i64 kind] 26)).alloc (.cells #[.int .i64 0] 3) := ⟨_, rfl⟩
  have K0 : Aside (Keeps Nowhere w W0) := ⟨by rw [hW0]; exact ((Keeps.refl _ _).alloc _).alloc _⟩
  have B0 : Aside (Cells W0 w.heap.size 26 [.int .i64 kind]) := ⟨by rw [hW0]; exact (Cells.new w _ _).later (S := Nowhere) ((Keeps.refl _ _).alloc _) (fun x => x)⟩
  have N0 : Aside (Cells W0 (w.heap.size + 1) 3 [.int .i64 0]) := ⟨by
    have h := Cells.new (w.alloc (.cells #[.int .i64 kind] 26)) 3 [.int .i64 0]
    rw [World.size_alloc] at h
    rw [hW0]; exact h⟩
  have QQ := Aside.mk (QU W0 K0.it)
  have AA := Aside.mk (AL W0 K0.it)
  have HZ := Aside.mk hZ
  have HT := Aside.mk T
  clear QU AL hZ T
  refine (callsIn_wide (n := 3)).1 ?_
  refine callsIn_of_wp_marks Tryd.func46 rfl trivial ?_ rfl
  simp only [Tryd.ntmps46, List.size_toArray, List.length_cons, List.length_nil, Nat.reduceAdd, Nat.reduceSub, Array.replicate_succ, Array.replicate_zero, List.push_toArray, List.append_toArray, List.nil_append, List.cons_append]
  gi_wp2_with fail
  rw [← hW0]
  clear hW0
  refine ⟨trivial, ?_⟩
  refine (callsIn_wide.2 QQ.it).mono ?_
  rintro e w1 ⟨rfl, hw1⟩
  subst hw1
  gi_wp2_with fail
  refine ⟨trivial, ?_⟩
  refine (callsIn_wide.2 AA.it).mono ?_
  rintro e w5 ⟨b, rfl, W5, k5⟩
  have nn := walk_not_nil w5 b
  gi_wp2_with fail
  obtain ⟨B, hB, hBk⟩ := W5.it.keptG fz Z.attach 2 (by decide) (by have := HZ.it; rw [qz_len]; omega) (qz_attach Z)
  have E0 := Aside.mk (B0.it.later k5.it (fun x => x))
  have E1 := Aside.mk (N0.it.later k5.it (fun x => x))
  have hlt := E1.it.lt
  have h0w : w.heap.size + 1 < w1.heap.size := N0.it.lt
  clear nn
  refine wpIn_rangeFunc_ownF rfl (by decide) (gf := 70) (lb := #[.pointer (some ⟨b, 0, none⟩)]) rfl trivial (enters_of Tryd.func70 (by kernel_rfl) rfl)
    hB kept_t (kept_b (fun k hk => (hBk k hk).2)) (Below.refl _ _) (fun _ => rfl)
    (fun pre W => Keeps (fun k => k = w.heap.size + 1) w5 W ∧ Cells W (w.heap.size + 1) 3 [.int .i64 (cntK kind (pre.map (·.1.2)))])
    (fun _ _ _ => False) ?hI (fun _ _ _ _ _ hs _ _ => hs) ⟨Keeps.refl _ _, E1.it⟩ ?a1 ?assign ?body ?done ?stop
  case hI =>
    intro pre W W' row hs hg hr'
    refine ⟨keeps_grown hs.1 hg (fun r e => (hr' r e).1), ?_⟩
    exact hs.2.later (grown_keeps hg) (fun e => by have := (hr' _ e).1; omega)
  case assign =>
    intro l x W K hK
    gi_wp2
    exact hK
  case stop =>
    intro D c pre W _ _ hx _
    exact hx.elim
  case body =>
    rintro l pre x W ⟨hk, hci⟩ hlen
    have hT := HT.it x.1 x.2
    have ht := (hT.later K0.it (fun x => x)).later k5.it (fun x => x)
    have hne : x.1.1 ≠ w.heap.size + 1 := fun e => by have := hT.lt; omega
    obtain ⟨b0, b1, b2⟩ := TB.of (ht.later hk hne)
    have c0 : W.cell? ⟨w.heap.size, 0, none⟩ = some (.int .i64 kind) := by rw [(E0.it.later hk (by omega)).cell]; rfl
    have n0 : W.cell? ⟨w.heap.size + 1, 0, none⟩ = some (.int .i64 (cntK kind (pre.map (·.1.2)))) := by rw [hci.cell]; rfl
    have nf := hci.frozen 0
    rw [qz_len] at hlen
    have hcl : (cntK kind (pre.map (·.1.2)) : Int) < 9223372036854775807 := by
      have h1 : cntK kind (pre.map (·.1.2)) ≤ (pre.map (·.1.2)).length := List.countP_le_length
      rw [List.length_map] at h1
      have := HZ.it
      omega
    have HK := Aside.mk hk
    have HCI := Aside.mk hci
    have HBK := Aside.mk hBk
    have HC : Aside (cntK kind ((pre ++ [x]).map (·.1.2)) = cntK kind (pre.map (·.1.2)) + if x.1.2.k = kind then 1 else 0) := ⟨by
      rw [List.map_append]
      unfold cntK
      rw [List.countP_append]
      by_cases h : x.1.2.k = kind <;> simp [h]⟩
    generalize cntK kind (pre.map (·.1.2)) = n at n0 hcl HC HCI ⊢
    have HLL := Aside.mk (And.intro hlt h0w)
    clear hk hci hT ht hBk hB hlen hlt h0w hne
    by_cases hkk : x.1.2.k = kind
    · rw [if_pos hkk] at HC
      have e1 : (x.1.2.k == kind) = true := by simpa using hkk
      clear hkk
      have KO := KeepsOthers.setCell W ⟨w.heap.size + 1, 0, none⟩ (.int .i64 ((n : Int) + 1))
      have FIN : Aside (KeepsOthers W (W.drew.setCell ⟨w.heap.size + 1, 0, none⟩ (.int .i64 ((n : Int) + 1))) ∧ KeptAt B W (W.drew.setCell ⟨w.heap.size + 1, 0, none⟩ (.int .i64 ((n : Int) + 1))) ∧ Keeps (fun k => k = w.heap.size + 1) w5 (W.drew.setCell ⟨w.heap.size + 1, 0, none⟩ (.int .i64 ((n : Int) + 1))) ∧ Cells (W.drew.setCell ⟨w.heap.size + 1, 0, none⟩ (.int .i64 ((n : Int) + 1))) (w.heap.size + 1) 3 [.int .i64 (cntK kind ((pre ++ [x]).map (·.1.2)))]) := ⟨⟨KO.size, KO.same⟩, fun k hk => Below.heap_setCell W ⟨w.heap.size + 1, 0, none⟩ _ k (fun e => by
          have h1 := (HBK.it k hk).1
          have h2 := HLL.it.2
          have h3 : k = w.heap.size + 1 := e
          omega), HK.it.drew.setCell _ _ (fun _ => rfl), by
        rw [HC.it]
        have h := (HCI.it.drew).setCell 0 (.int .i64 ((n : Int) + 1))
        exact h⟩
      clear KO
      gi_wp2_with fail
      gi_region
      all_goals gi_wp2
      all_goals exact FIN.it
    · rw [if_neg hkk] at HC
      have e1 : (x.1.2.k == kind) = false := by simpa using hkk
      clear hkk
      have FIN : Aside (KeepsOthers W W.drew ∧ KeptAt B W W.drew ∧ Keeps (fun k => k = w.heap.size + 1) w5 W.drew ∧ Cells W.drew (w.heap.size + 1) 3 [.int .i64 (cntK kind ((pre ++ [x]).map (·.1.2)))]) := ⟨⟨Nat.le_refl _, fun _ _ h _ => h⟩, fun k _ => rfl, HK.it.drew, by
        rw [HC.it]
        exact HCI.it.drew⟩
      gi_wp2_with fail
      gi_region
      all_goals gi_wp2
      all_goals exact FIN.it
  case done =>
    rintro D ys W hD rfl ⟨hk, hci⟩ hK
    have n0 : W.cell? ⟨w.heap.size + 1, 0, none⟩ = some (.int .i64 (cntK kind ((Z.attach).map (·.1.2)))) := by rw [hci.cell]; rfl
    have hmap : (Z.attach).map (fun y : Az Z => y.1.2) = Z.map (·.2) := by
      rw [show (fun y : Az Z => y.1.2) = (fun x : Nat × Tk => x.2) ∘ Subtype.val from rfl, ← List.map_map, List.attach_map_subtype_val]
    rw [hmap] at n0
    have HK := Aside.mk hk
    have HD := Aside.mk hK
    have N5 := Aside.mk (And.intro hlt (And.intro h0w hD))
    clear hk hK hmap hlt h0w hB hci hD
    gi_wp2
    refine ⟨by simp, .inl ⟨_, _, rfl, run_takeDeferred HD.it, ?_⟩⟩
    refine ⟨_, results_tmp rfl _ _ _, rfl, ⟨?_⟩⟩
    have k1 : Keeps (fun k => k = w.heap.size + 1 ∨ k = D) w5 (W.putObj D (.deferred none)) := keeps_grown' (HK.it.mono (fun k e _ => .inl e)) (grownBy_putObj' _ D (.deferred none)) (fun r e => by cases e; exact .inr rfl)
    exact (K0.it.trans k5.it).next k1 (fun k e hlt' => by have := N5.it; omega)
theorem count_nil (w : World) (kind : Int) : Calls Tryd.prog 46 #[.pointer none, .int .i64 kind] w fun e w' => e = .returned (.int .i64 (cntK kind [])) ∧ Aside (Keeps Nowhere w w') :=
  count_of _ _ kind [] (by decide) (fun y hy => by cases hy) (fun W _ => queue_nil W) (fun W _ => all_nil W)
theorem count_at (h : LnO own i w p Z m) (hm : m ≤ 8796093022208) (kind : Int) : Calls Tryd.prog 46 #[ptr p, .int .i64 kind] w fun e w' => e = .returned (.int .i64 (cntK kind (Z.map (·.2)))) ∧ Aside (Keeps Nowhere w w') := by
  obtain ⟨fp, mb, F, h⟩ := h
  have hl := FifoM.room h.fifo
  rw [qz_len] at hl
  refine count_of _ (ptr fp) kind Z (by omega) (fun y hy => (h.tks y hy).1) (fun W k => queue_at W p fp (by rw [(h.quiet k).box.1.cell]; rfl)) (fun W k => ?_)
  obtain ⟨v, f, g, h1, _⟩ := (h.quiet k).fifo
  exact all_in h1 (by rw [qz_len]; simp only [by']; omega)
end Go.Proofs.YtnohcbdnhpaafaaDoor
