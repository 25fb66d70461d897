/-
  culvertlaw15.counts
-/
import Derived.Test.YtcdgmbaimbmdmaaDoorDcB
import Derived.Test.YtcdgmbaimbmdmaaDoorTbFcnt
namespace Go.Proofs.YtcdgmbaimbmdmaaDoor
open Go.RowKit Go.Shelf Tbint

variable {w w' W : World} {own : Nat → Nat} {L : Tl Int}

theorem koAnd {a b c : World} (h : KeepsOthers a b) (h' : KeepsOthers b c) : KeepsOthers a c := ⟨Nat.le_trans h.size h'.size, fun k o h1 h2 => h'.same k o (h.same k o h1 h2) h2⟩

/-- what the closure has counted and seen -/
def Ask (qa qr : Nat) (L : Tl Int) (pre : Tl Int) (W : World) : Prop := Cells W qa 3 [.int .i64 pre.length] ∧ ∃ b : Bool, Cells W qr 4 [.bool b] ∧ (b = true ↔ pre <+: L)

set_option maxRecDepth 8000 in
set_option maxHeartbeats 2000000 in
theorem ask_call (qa qt qr qo : Nat) (room kd : Int) (lo : Nat) (m : Int) (v : Value) (pre : Tl Int) (x : Nat × Int) (hA : Ask qa qr L pre W) (hlen : pre.length < L.length) (hl : L.length ≤ 4294967296)
    (ct : Cells W qt 31 [.int .i64 room, v]) (co : Cells W qo 38 [.int .i64 kd, .int .u32 (lo : Nat), .int .i64 m]) (hr : RdD own W v L) :
    Calls Tryd.prog 29 #[e32 x.1, .int .i64 x.2, ptr qa, ptr qt, ptr qr, ptr qo] W fun e w' => e = .returned (.bool (decide (lo ≤ x.1) && decide (m ≤ x.2))) ∧ Aside (Ask qa qr L (pre ++ [x]) w') ∧ Aside (Keeps (fun k => k = qa ∨ k = qr) W w') ∧ Aside (KeepsOthers W w') := by
  obtain ⟨a, c, rfl, hlc, hc⟩ := hr
  obtain ⟨ca, b, cr, hb⟩ := hA
  obtain ⟨y, hy⟩ : ∃ y, L[pre.length]? = some y := ⟨_, List.getElem?_eq_getElem hlen⟩
  obtain ⟨g, rfl, _, y0, y1⟩ := hc pre.length y hy
  have hne : ¬ qa = qr := fun e => by rw [e] at ca; unfold Cells at ca cr; rw [ca] at cr; simp at cr
  have hne2 : ¬ qr = qa := fun e => hne e.symm
  have s0 : W.cell? ⟨qa, 0, none⟩ = some (.int .i64 pre.length) := by rw [ca.cell]; rfl
  have s1 : W.cell? ⟨qr, 0, none⟩ = some (.bool b) := by rw [cr.cell]; rfl
  have s2 : W.cell? ⟨qt, 1, none⟩ = some (.slice (some ⟨g, 0, none⟩) L.length c) := by rw [ct.cell]; rfl
  have s3 : W.cell? ⟨qo, 1, none⟩ = some (.int .u32 (lo : Nat)) := by rw [co.cell]; rfl
  have s4 : W.cell? ⟨qo, 2, none⟩ = some (.int .i64 m) := by rw [co.cell]; rfl
  have f0 := ca.frozen 0
  have f1 := cr.frozen 0
  have hqo : ¬ qo = qa ∧ ¬ qo = qr := ⟨fun e => by rw [e] at co; unfold Cells at ca co; rw [ca] at co; simp at co, fun e => by rw [e] at co; unfold Cells at cr co; rw [cr] at co; simp at co⟩
  have hqoa : ¬ qa = qo := fun e => hqo.1 e.symm
  obtain ⟨hq1, hq2⟩ := hqo
  have hpx : Aside (pre ++ [x] <+: L ↔ (pre <+: L ∧ x = y)) := ⟨by
    constructor
    · intro h
      obtain ⟨r, rfl⟩ := h
      refine ⟨⟨[x] ++ r, by simp⟩, ?_⟩
      rw [List.append_assoc, List.getElem?_append_right (Nat.le_refl _), Nat.sub_self] at hy
      simpa using hy
    · rintro ⟨⟨r, rfl⟩, rfl⟩
      rw [List.getElem?_append_right (Nat.le_refl _), Nat.sub_self] at hy
      cases r with
      | nil => simp at hy
      | cons z r =>
        simp only [List.getElem?_cons_zero, Option.some.injEq] at hy
        subst hy
        exact ⟨r, by simp⟩⟩
  obtain ⟨N, hN⟩ : ∃ N, L.length = N := ⟨_, rfl⟩
  obtain ⟨n, hn⟩ : ∃ n, pre.length = n := ⟨_, rfl⟩
  rw [hN] at hlen hl s2 hlc
  rw [hn] at hlen s0 y0 y1
  have HCA := Aside.mk ca
  have HCR := Aside.mk cr
  have HB := Aside.mk hb
  have HNN := Aside.mk hn
  have hlz : ¬ (N : Int) ≤ n := by omega
  have FIN1 : Aside (x = y → Ask qa qr L (pre ++ [x]) (W.setCell ⟨qa, 0, none⟩ (.int .i64 ((n : Int) + 1)))) := ⟨fun e => ⟨by rw [List.length_append, HNN.it]; exact HCA.it.setCell 0 (.int .i64 ((n : Int) + 1)), b, HCR.it.setOther _ _ hne2, by rw [HB.it, hpx.it]; simp [e]⟩⟩
  have FIN2 : Aside (¬ x = y → Ask qa qr L (pre ++ [x]) ((W.setCell ⟨qr, 0, none⟩ (.bool false)).setCell ⟨qa, 0, none⟩ (.int .i64 ((n : Int) + 1)))) := ⟨fun e => ⟨by rw [List.length_append, HNN.it]; exact (HCA.it.setOther ⟨qr, 0, none⟩ (.bool false) hne).setCell 0 (.int .i64 ((n : Int) + 1)), false, (HCR.it.setCell 0 (.bool false)).setOther _ _ hne2, by rw [hpx.it]; simp [e]⟩⟩
  have KE1 : Aside (Keeps (fun k => k = qa ∨ k = qr) W (W.setCell ⟨qa, 0, none⟩ (.int .i64 ((n : Int) + 1))) ∧ KeepsOthers W (W.setCell ⟨qa, 0, none⟩ (.int .i64 ((n : Int) + 1)))) := ⟨(Keeps.refl _ _).setCell _ _ (fun _ => .inl rfl), KeepsOthers.setCell _ _ _⟩
  have KE2 : Aside (Keeps (fun k => k = qa ∨ k = qr) W ((W.setCell ⟨qr, 0, none⟩ (.bool false)).setCell ⟨qa, 0, none⟩ (.int .i64 ((n : Int) + 1))) ∧ KeepsOthers W ((W.setCell ⟨qr, 0, none⟩ (.bool false)).setCell ⟨qa, 0, none⟩ (.int .i64 ((n : Int) + 1)))) := ⟨((Keeps.refl _ _).setCell _ _ (fun _ => .inr rfl)).setCell _ _ (fun _ => .inl rfl), koAnd (KeepsOthers.setCell _ _ _) (KeepsOthers.setCell _ _ _)⟩
  clear hc hy ca cr ct co hb hN hn hpx
  have FIN : Aside (∀ w', ((x = y ∧ w' = W.setCell ⟨qa, 0, none⟩ (.int .i64 ((n : Int) + 1))) ∨ (¬ x = y ∧ w' = (W.setCell ⟨qr, 0, none⟩ (.bool false)).setCell ⟨qa, 0, none⟩ (.int .i64 ((n : Int) + 1)))) → Aside (Ask qa qr L (pre ++ [x]) w') ∧ Aside (Keeps (fun k => k = qa ∨ k = qr) W w') ∧ Aside (KeepsOthers W w')) := ⟨fun w' hw => by
    rcases hw with ⟨h1, rfl⟩ | ⟨h1, rfl⟩
    · exact ⟨⟨FIN1.it h1⟩, ⟨KE1.it.1⟩, ⟨KE1.it.2⟩⟩
    · exact ⟨⟨FIN2.it h1⟩, ⟨KE2.it.1⟩, ⟨KE2.it.2⟩⟩⟩
  clear FIN1 FIN2 KE1 KE2 HCA HCR HB HNN
  have ways : (∃ h1 : x.1 = y.1, ∃ h2 : x.2 = y.2, True) ∨ (x.1 = y.1 ∧ ¬ x.2 = y.2) ∨ ¬ x.1 = y.1 := by
    by_cases h1 : x.1 = y.1
    · by_cases h2 : x.2 = y.2
      · exact .inl ⟨h1, h2, trivial⟩
      · exact .inr (.inl ⟨h1, h2⟩)
    · exact .inr (.inr h1)
  obtain ⟨x1, x2⟩ := x
  obtain ⟨z1, z2⟩ := y
  simp only at ways y0 y1 FIN ⊢
  have cmp : (lo ≤ x1 ∨ ¬ lo ≤ x1) := Decidable.em _
  rcases ways with ⟨h1, h2, _⟩ | ⟨h1, h2⟩ | h1
  · subst h1 h2
    rcases cmp with hc1 | hc1
    · have hd1 : decide (lo ≤ x1) = true := decide_eq_true hc1
      go_enter Tryd.func29, Tryd.ntmps29
      go_wp2
      all_goals go_ret
      all_goals exact ⟨rfl, FIN.it _ (.inl ⟨by trivial, rfl⟩)⟩
    · have hd1 : decide (lo ≤ x1) = false := decide_eq_false hc1
      go_enter Tryd.func29, Tryd.ntmps29
      go_wp2
      all_goals go_ret
      all_goals exact ⟨rfl, FIN.it _ (.inl ⟨by trivial, rfl⟩)⟩
  · have hx2 : (z2 != x2) = true := bne_iff_ne.2 (fun e => h2 e.symm)
    have hno : ¬ (x1, x2) = (z1, z2) := fun e => h2 (by injection e)
    subst h1
    rcases cmp with hc1 | hc1
    · have hd1 : decide (lo ≤ x1) = true := decide_eq_true hc1
      go_enter Tryd.func29, Tryd.ntmps29
      go_wp2
      all_goals go_ret
      all_goals exact ⟨rfl, FIN.it _ (.inr ⟨hno, rfl⟩)⟩
    · have hd1 : decide (lo ≤ x1) = false := decide_eq_false hc1
      go_enter Tryd.func29, Tryd.ntmps29
      go_wp2
      all_goals go_ret
      all_goals exact ⟨rfl, FIN.it _ (.inr ⟨hno, rfl⟩)⟩
  · have hx1 : ((z1 : Int) != (x1 : Int)) = true := bne_iff_ne.2 (fun e => h1 (by omega))
    have hno : ¬ (x1, x2) = (z1, z2) := fun e => h1 (by injection e)
    rcases cmp with hc1 | hc1
    · have hd1 : decide (lo ≤ x1) = true := decide_eq_true hc1
      go_enter Tryd.func29, Tryd.ntmps29
      go_wp2
      all_goals go_ret
      all_goals exact ⟨rfl, FIN.it _ (.inr ⟨hno, rfl⟩)⟩
    · have hd1 : decide (lo ≤ x1) = false := decide_eq_false hc1
      go_enter Tryd.func29, Tryd.ntmps29
      go_wp2
      all_goals go_ret
      all_goals exact ⟨rfl, FIN.it _ (.inr ⟨hno, rfl⟩)⟩

set_option maxRecDepth 8000 in
set_option maxHeartbeats 2000000 in
theorem counts_of (x0 : Value) (room kd : Int) (lo : Nat) (m : Int) {v : Value} (w : World) (hl : L.length ≤ 4294967296) (hr : RdD own w v L)
    (AL : ∀ W, Keeps Nowhere w W → Calls Tryd.prog 8 #[x0] W fun e w' => ∃ bi bs, e = .returned (.func (.func 24) #[] #[ptr bi, ptr bs]) ∧ Aside (WalkT W.heap.size w' bi bs L) ∧ Aside (Keeps Nowhere W w')) :
    Calls Tryd.prog 21 #[x0, .agg #[.int .i64 room, v], .agg #[.int .i64 kd, .int .u32 (lo : Nat), .int .i64 m]] w fun e w' => e = .returned (.bool true) ∧ Aside (Keeps Nowhere w w') := by
  have HR := Aside.mk hr
  obtain ⟨a, c, rfl, hlc, _⟩ := hr
  obtain ⟨N, hN⟩ : ∃ N, L.length = N := ⟨_, rfl⟩
  have HN := Aside.mk hN
  rw [hN] at hlc ⊢
  obtain ⟨W0, hW0⟩ : ∃ W0, (((w.alloc (.cells #[.int .i64 room, .slice a N c] 31)).alloc (.cells #[.int .i64 kd, .int .u32 (lo : Nat), .int .i64 m] 38)).alloc (.cells #[.int .i64 0] 3)).alloc (.cells #[.bool true] 4) = W0 := ⟨_, rfl⟩
  obtain ⟨b, hb⟩ : ∃ b, w.heap.size = b := ⟨_, rfl⟩
  have K0 : Aside (Keeps Nowhere w W0) := ⟨by rw [← hW0]; exact ((((Keeps.refl _ _).alloc _).alloc _).alloc _).alloc _⟩
  have C0 : Aside (Cells W0 b 31 [.int .i64 room, .slice a N c]) := ⟨by rw [← hW0, ← hb]; exact (Cells.new w _ _).later (S := Nowhere) ((((Keeps.refl _ _).alloc _).alloc _).alloc _) (fun x => x)⟩
  have C1 : Aside (Cells W0 (b + 1) 38 [.int .i64 kd, .int .u32 (lo : Nat), .int .i64 m]) := ⟨by
    have h := Cells.new (w.alloc (.cells #[.int .i64 room, .slice a N c] 31)) 38 [.int .i64 kd, .int .u32 (lo : Nat), .int .i64 m]
    rw [World.size_alloc, hb] at h
    rw [← hW0]; exact h.later (S := Nowhere) (((Keeps.refl _ _).alloc _).alloc _) (fun x => x)⟩
  have C2 : Aside (Cells W0 (b + 1 + 1) 3 [.int .i64 0]) := ⟨by
    have h := Cells.new ((w.alloc (.cells #[.int .i64 room, .slice a N c] 31)).alloc (.cells #[.int .i64 kd, .int .u32 (lo : Nat), .int .i64 m] 38)) 3 [.int .i64 0]
    rw [World.size_alloc, World.size_alloc, hb] at h
    rw [← hW0]; exact h.later (S := Nowhere) ((Keeps.refl _ _).alloc _) (fun x => x)⟩
  have C3 : Aside (Cells W0 (b + 1 + 1 + 1) 4 [.bool true]) := ⟨by
    have h := Cells.new (((w.alloc (.cells #[.int .i64 room, .slice a N c] 31)).alloc (.cells #[.int .i64 kd, .int .u32 (lo : Nat), .int .i64 m] 38)).alloc (.cells #[.int .i64 0] 3)) 4 [.bool true]
    rw [World.size_alloc, World.size_alloc, World.size_alloc, hb] at h
    rw [← hW0]; exact h⟩
  have CNT := Aside.mk (Tccnt.count_of (w := W0) x0 (b + 1 + 1) b (b + 1 + 1 + 1) (b + 1) L hl (fun k => k = b + 1 + 1 ∨ k = b + 1 + 1 + 1) (fun k e => by have h2 := C2.it.lt; have h3 := C3.it.lt; rcases e with e | e <;> omega) (fun x => decide (lo ≤ x.1) && decide (m ≤ x.2)) (Ask (b + 1 + 1) (b + 1 + 1 + 1) L)
    (fun pre W W' h hk => ⟨by have := h.1; unfold Cells at *; rw [hk _ (.inl rfl)]; exact this, by
      obtain ⟨u, h1, h2⟩ := h.2
      exact ⟨u, by unfold Cells at *; rw [hk _ (.inr rfl)]; exact h1, h2⟩⟩)
    ⟨C2.it, true, C3.it, by simp⟩
    (fun pre x W hp hk hlen => ask_call (b + 1 + 1) b (b + 1 + 1 + 1) (b + 1) room kd lo m (.slice a N c) pre x hp hlen hl (C0.it.later hk (by omega)) (C1.it.later hk (by omega)) (by
      have hk2 : Keeps Nowhere w W := K0.it.next hk (fun k e hlt => by rcases e with e | e <;> omega)
      have := HR.it.quiet hk2
      rw [HN.it] at this
      exact this))
    (fun W hW => AL W (K0.it.trans hW)))
  have AB : Aside (∀ W, Keeps Nowhere w W → Calls Tryd.prog 30 #[.agg #[.int .i64 room, .slice a N c], .int .u32 lo, .int .i64 m] W fun e w' => e = .returned (.int .i64 (aboveL lo m L)) ∧ Aside (Keeps Nowhere W w')) := ⟨fun W hW => by
    have h := HR.it.quiet hW
    have := dabove room lo m h hl
    rw [HN.it] at this
    exact this⟩
  have HB := Aside.mk hb
  have hNl : N ≤ 4294967296 := by omega
  have hab : aboveL lo m L ≤ N := by rw [← hN]; exact List.countP_le_length
  clear hN AL
  go_enter Tryd.func21, Tryd.ntmps21
  go_upto_region 3 with fail
  clear hW0 hb
  go_upto_region 4 with (go_at_call 23; refine CNT.it.mono ?_; rintro e w5 ⟨rfl, P5, K5⟩)
  obtain ⟨ca, u, cr, hu⟩ := P5.it
  obtain rfl : u = true := hu.2 (List.prefix_refl L)
  have hkw : Keeps Nowhere w w5 := K0.it.next K5.it (fun k e hlt => by have := HB.it; rcases e with e | e <;> omega)
  have A5 := Aside.mk (AB.it w5 hkw)
  have e0 := C0.it.later K5.it (by omega)
  have e1 := C1.it.later K5.it (by omega)
  rw [HN.it] at ca
  have s0 : w5.cell? ⟨b + 1 + 1, 0, none⟩ = some (.int .i64 N) := by rw [ca.cell]; rfl
  have s1 : w5.cell? ⟨b + 1 + 1 + 1, 0, none⟩ = some (.bool true) := by rw [cr.cell]; rfl
  have s2 : w5.cell? ⟨b, 0, none⟩ = some (.int .i64 room) := by rw [e0.cell]; rfl
  have s3 : w5.cell? ⟨b, 1, none⟩ = some (.slice a N c) := by rw [e0.cell]; rfl
  have s4 : w5.cell? ⟨b + 1, 1, none⟩ = some (.int .u32 (lo : Nat)) := by rw [e1.cell]; rfl
  have s5 : w5.cell? ⟨b + 1, 2, none⟩ = some (.int .i64 m) := by rw [e1.cell]; rfl
  have enn : ((N : Int) == N) = true := by simp
  have HKW := Aside.mk hkw
  have eab : (List.countP (fun x : Nat × Int => decide (lo ≤ x.1) && decide (m ≤ x.2)) L) = aboveL lo m L := rfl
  rw [eab]
  generalize aboveL lo m L = q at A5 ⊢
  have eqq : ((q : Int) == q) = true := by simp
  clear P5 hu ca cr e0 e1 hkw eab CNT AB
  go_wp2_with (go_at_call 30; refine A5.it.mono ?_; rintro e w6 ⟨rfl, K6⟩)
  go_ret
  exact ⟨rfl, ⟨HKW.it.trans K6.it⟩⟩
theorem counts_ok {i p : Nat} {rm : Int} {v : Value} (room kd : Int) (lo : Nat) (m : Int) (w : World) (h : TbO own i w p rm L) (hr : RdD own w v L) :
    Calls Tryd.prog 21 #[ptr p, .agg #[.int .i64 room, v], .agg #[.int .i64 kd, .int .u32 (lo : Nat), .int .i64 m]] w fun e w' => e = .returned (.bool true) ∧ Aside (Keeps Nowhere w w') :=
  counts_of (ptr p) room kd lo m w (up_len h.up) hr (fun _ hW => Tbint.all_at (h.quiet hW))
end Go.Proofs.YtcdgmbaimbmdmaaDoor
