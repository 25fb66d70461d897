/-
  package lane: a lane in memory, by four owners i .. i+3 (its box, its queue, its table, its tickets' boxes); leave, stand, New
-/
import Derived.Test.YtnohcbdnhpaafaaDoorLnA
import Derived.Test.YtnohcbdnhpaafaaDoorQueFticket
namespace Go.Proofs.YtnohcbdnhpaafaaDoor
open Go.RowKit

abbrev maxI : Nat := 9223372036854775807
def qz (Z : Zs) : List (Nat × Nat) := Z.map fun x => (x.1, 0)
theorem qz_len (Z : Zs) : (qz Z).length = Z.length := by simp [qz]
theorem qz_sum (Z : Zs) : Fticket.sumW (qz Z) = 0 := by
  induction Z with
  | nil => rfl
  | cons x Z ih => simp only [qz, List.map_cons, Fticket.sumW_cons, Nat.zero_add]; exact ih
abbrev tcells (t : Tk) : List Value := [.int .i64 t.k, .int .u32 t.s, .int .u32 t.v]
def Tks (own : Nat → Nat) (j : Nat) (w : World) (Z : Zs) : Prop := ∀ x ∈ Z, CellsO own j w x.1 29 (tcells x.2)

structure LnI (own : Nat → Nat) (i : Nat) (w : World) (p fp mb : Nat) (F : Int → Nat → Option Nat) (Z : Zs) (m : Nat) : Prop where
  box : CellsO own i w p 85 [ptr fp, .map (some mb)]
  fifo : Fticket.FifoM own (i + 1) w fp maxI 0 (qz Z) m
  map : MapF w mb m F
  mine : own mb = i + 2
  tks : Tks own (i + 3) w Z
  ok : ZOk Z
  holds : Holds1 F Z
def LnO (own : Nat → Nat) (i : Nat) (w : World) (p : Nat) (Z : Zs) (m : Nat) : Prop := ∃ fp mb F, LnI own i w p fp mb F Z m
/-- one of the lane's four -/
def In4 (i : Nat) : Nat → Prop := fun k => i ≤ k ∧ k ≤ i + 3

variable {A : Nat → Addr} {w w' w0 : World} {own own' : Nat → Nat} {i p fp mb m : Nat} {I : Nat → Prop} {F : Int → Nat → Option Nat} {Z : Zs}

theorem FifoM.sn {q : List (Nat × Nat)} {j rt rw : Nat} (h : Fticket.FifoM own j w fp rt rw q m) (s : Sn I own w own' w') (hj : ¬ I j) : Fticket.FifoM own' j w' fp rt rw q m := by
  obtain ⟨v, f, g, h1, h2, h3, h4⟩ := h
  refine ⟨v, f, g, h1.later s.keeps ?_, h2, (s.agree _ (h1.lt fp (.inl rfl))).trans h3, fun k hk => (s.agree _ (h1.lt k (.inr hk))).trans (h4 k hk)⟩
  rintro k (rfl | hk') e
  · exact hj (h3 ▸ e)
  · exact hj (h4 k hk' ▸ e)
theorem Tks.sn {j : Nat} (h : Tks own j w Z) (s : Sn I own w own' w') (hj : ¬ I j) : Tks own' j w' Z := fun x hx => (h x hx).sn s hj
theorem LnI.sn (h : LnI own i w p fp mb F Z m) (s : Sn I own w own' w') (hi : ∀ k, In4 i k → ¬ I k) : LnI own' i w' p fp mb F Z m :=
  ⟨h.box.sn s (hi _ ⟨by omega, by omega⟩), FifoM.sn h.fifo s (hi _ ⟨by omega, by omega⟩), h.map.later s.keeps (fun e => hi (i + 2) ⟨by omega, by omega⟩ (h.mine ▸ e)), (s.agree _ h.map.lt).trans h.mine, h.tks.sn s (hi _ ⟨by omega, by omega⟩), h.ok, h.holds⟩
theorem LnI.quiet (h : LnI own i w p fp mb F Z m) (k : Keeps Nowhere w w') : LnI own i w' p fp mb F Z m := h.sn (I := fun _ => False) (Sn.same k) (fun _ _ x => x)
theorem LnO.sn (h : LnO own i w p Z m) (s : Sn I own w own' w') (hi : ∀ k, In4 i k → ¬ I k) : LnO own' i w' p Z m := by
  obtain ⟨fp, mb, F, h⟩ := h
  exact ⟨fp, mb, F, h.sn s hi⟩
theorem LnO.quiet (h : LnO own i w p Z m) (k : Keeps Nowhere w w') : LnO own i w' p Z m := h.sn (I := fun _ => False) (Sn.same k) (fun _ _ x => x)

/-- a ticket's key leaves the table -/
theorem leave_at (p b mb m : Nat) (t : Tk) (ht : t.Wide) (hp : w.cell? ⟨p, 1, none⟩ = some (.map (some mb))) (hb : TB w b t.k t.s t.v) (hm : MapF w mb m F) :
    Calls Tryd.prog 56 #[ptr p, ptr b] w fun e w' => e = .returned (.tuple #[]) ∧ MapF w' mb m (setF F t.k t.s none) ∧ Keeps (fun x => x = mb) w w' := by
  obtain ⟨b0, b1, b2⟩ := hb
  have k0 : Keeps Nowhere w w.drew := (Keeps.refl _ _).drew
  obtain ⟨w1, hrun, m1, k1⟩ := (hm.later k0 (fun x => x)).drop ht.wd
  have M1 := Aside.mk m1
  have K1 := Aside.mk k1
  clear m1 k1 hm
  go_enter Tryd.func56, Tryd.ntmps56
  go_region
  go_end0
  exact ⟨rfl, M1.it, (k0.any (S := fun x => x = mb)).trans K1.it⟩
theorem FifoM.room {q : List (Nat × Nat)} {j rt rw : Nat} (h : Fticket.FifoM own j w fp rt rw q m) : q.length ≤ m := by
  obtain ⟨v, f, g, h1, h2, _⟩ := h
  omega
theorem shS_single (t : Tk) (h : mayT t = 0) : shS t.k.toNat = decide (Single t.k) ∧ (t.k.toNat : Int) = t.k ∧ t.k.toNat < 8 := by
  have hr := may_range h
  refine ⟨?_, by omega, by omega⟩
  have hr : t.k = 1 ∨ t.k = 2 ∨ t.k = 3 ∨ t.k = 4 ∨ t.k = 5 ∨ t.k = 6 ∨ t.k = 7 := by omega
  rcases hr with h | h | h | h | h | h | h <;> rw [h] <;> rfl
theorem qz_snoc (Z : Zs) (b : Nat) (t : Tk) : qz (Z ++ [(b, t)]) = qz Z ++ [(b, 0)] := by simp [qz]
theorem Tks.snoc {j b : Nat} {t : Tk} (h : Tks own j w Z) (hb : CellsO own j w b 29 (tcells t)) : Tks own j w (Z ++ [(b, t)]) := by
  intro x hx
  rcases List.mem_append.1 hx with hx | hx
  · exact h x hx
  · simp only [List.mem_singleton] at hx
    subst hx
    exact hb

/-- a ticket stands behind all others -/
theorem stand_at (h : LnI own i w p fp mb F Z m) (h9 : Shapes w) (b : Nat) (t : Tk) (hb : CellsO own (i + 3) w b 29 (tcells t)) (ht : t.Wide) (hmay : mayT t = 0) (hn : b ∉ Z.map (·.1)) (h1 : Single t.k → F t.k t.s = none) (hm : m < 8796093022208) :
    Calls Tryd.prog 49 #[ptr p, ptr b] w fun e w' => ∃ own', e = .returned .nilIface ∧ Aside (LnO own' i w' p (Z ++ [(b, t)]) (m + 1) ∧ Sn (In4 i) own w own' w') := by
  obtain ⟨hS, hN, hN8⟩ := shS_single t hmay
  obtain ⟨n, hn'⟩ : ∃ n, n = t.k.toNat := ⟨_, rfl⟩
  rw [← hn'] at hS hN hN8
  obtain ⟨b0, b1, b2⟩ := TB.of hb.1
  have c5 := (h9 n hN8).c5
  rw [hS] at c5
  rw [← hN] at b0
  have i2 : (n : Int) < 8 := by omega
  have i3 : (0 : Int) ≤ n := by omega
  have p0 : w.cell? ⟨p, 0, none⟩ = some (ptr fp) := by rw [h.box.1.cell]; rfl
  have p1 : w.cell? ⟨p, 1, none⟩ = some (.map (some mb)) := by rw [h.box.1.cell]; rfl
  have hlen := FifoM.room h.fifo
  rw [qz_len] at hlen
  have hne : mb ≠ p := fun e => by have := h.box.2; have := h.mine; rw [e] at this; omega
  have H := Aside.mk h
  have HB := Aside.mk hb
  have HN := Aside.mk hN
  clear hn' hN
  by_cases hsg : Single t.k
  · rw [decide_eq_true hsg] at c5
    have k0 : Keeps Nowhere w w.drew := (Keeps.refl _ _).drew
    obtain ⟨w1, hrun, m1, k1⟩ := (h.map.later k0 (fun x => x)).store (k := n) (s := t.s) (by unfold maxLen; omega) (by rw [HN.it]; exact ht.wd) b
    have M1 := Aside.mk m1
    have S1 : Aside (Sn (fun k => k = i + 2) own w own w1) := ⟨⟨fun _ _ => rfl, (k0.any.trans k1).mono (fun x e _ => by subst e; exact h.mine)⟩⟩
    have q0 : w1.cell? ⟨p, 0, none⟩ = some (ptr fp) := by rw [(h.box.sn S1.it (by omega)).1.cell]; rfl
    have P := Aside.mk (Fticket.put_o (FifoM.sn h.fifo S1.it (by omega)) b 0 (by rw [qz_len]; simp only [maxI]; omega) (by rw [qz_sum]; omega) hm)
    have HH : Aside _ := ⟨h1 hsg⟩
    have HSG := Aside.mk hsg
    clear m1 k1 h hb hS hsg h9 h1 hlen hm
    go_enter Tryd.func49, Tryd.ntmps49
    go_upto_region 2 with fail
    all_goals (try (exfalso; omega))
    go_region
    go_wp2_with (go_at_call 66; refine P.it.mono ?_; rintro e w2 ⟨rfl, f2, k2⟩)
    go_ret
    have s2 : Sn (fun k => k = i + 1) own w1 (give own w1.heap.size (i + 1)) w2 := Sn.by k2.it _
    have ss : Sn (In4 i) own w (give own w1.heap.size (i + 1)) w2 := (S1.it.mono (fun k e => ⟨by omega, by omega⟩)).trans (s2.mono (fun k e => ⟨by omega, by omega⟩))
    rw [HN.it] at M1
    refine ⟨_, rfl, ⟨⟨fp, mb, _, (H.it.box.sn S1.it (by omega)).sn s2 (by omega), ?_, M1.it.later s2.keeps ?_, (s2.agree _ M1.it.lt).trans H.it.mine, ?_, ?_, ?_⟩, ss⟩⟩
    · rw [qz_snoc]
      exact f2.it
    · show ¬ own mb = i + 1
      rw [H.it.mine]
      omega
    · exact ((H.it.tks.sn S1.it (by omega)).sn s2 (by omega)).snoc ((HB.it.sn S1.it (by omega)).sn s2 (by omega))
    · exact zok_more H.it.ok H.it.holds b t hn ht hmay (fun _ => HH.it)
    · exact holds_one H.it.holds b t HSG.it HH.it
  · rw [decide_eq_false hsg] at c5
    have P := Aside.mk (Fticket.put_o h.fifo b 0 (by rw [qz_len]; simp only [maxI]; omega) (by rw [qz_sum]; omega) hm)
    have HSG := Aside.mk hsg
    clear h hb hS hsg h9 h1 hlen hm
    go_enter Tryd.func49, Tryd.ntmps49
    go_wp2_with (go_at_call 66; refine P.it.mono ?_; rintro e w2 ⟨rfl, f2, k2⟩)
    go_ret
    have s2 : Sn (fun k => k = i + 1) own w (give own w.heap.size (i + 1)) w2 := Sn.by k2.it _
    refine ⟨_, rfl, ⟨⟨fp, mb, _, H.it.box.sn s2 (by omega), ?_, (H.it.map.mono (Nat.le_succ _)).later s2.keeps ?_, (s2.agree _ H.it.map.lt).trans H.it.mine, ?_, ?_, ?_⟩, s2.mono (fun k e => ⟨by omega, by omega⟩)⟩⟩
    · rw [qz_snoc]
      exact f2.it
    · show ¬ own mb = i + 1
      rw [H.it.mine]
      omega
    · exact (H.it.tks.sn s2 (by omega)).snoc (HB.it.sn s2 (by omega))
    · exact zok_more H.it.ok H.it.holds b t hn ht hmay (fun e => absurd e HSG.it)
    · exact holds_many H.it.holds b t HSG.it
theorem mk_map (w : World) : (Instr.makeMap 83 none).run Tryd.prog w = .ok (.map (some w.heap.size)) (w.alloc (.map #[] 0)) := by kernel_rfl
theorem new_at (w : World) (own : Nat → Nat) (i : Nat) : Calls Tryd.prog 25 #[] w fun e w' => ∃ p own', e = .returned (ptr p) ∧ Aside (LnO own' i w' p [] 0 ∧ Keeps Nowhere w w' ∧ ∀ k, k < w.heap.size → own' k = own k) := by
  have N := Aside.mk (Fticket.new_o (m := 0) w maxI 0 (by decide) (by decide) own (i + 1))
  have hmk := mk_map
  go_enter Tryd.func25, Tryd.ntmps25
  go_wp2_with (go_at_call 47; refine N.it.mono ?_; rintro e w1 ⟨fp, rfl, f1, k1⟩)
  go_ret
  have s1 : Sn (fun _ => False) (give own w.heap.size (i + 1)) w1 (give (give own w.heap.size (i + 1)) w1.heap.size (i + 2)) (w1.alloc (.map #[] 0)) := Sn.quiet ((Keeps.refl _ _).alloc _) _
  have s2 : Sn (fun _ => False) (give (give own w.heap.size (i + 1)) w1.heap.size (i + 2)) (w1.alloc (.map #[] 0)) (give (give (give own w.heap.size (i + 1)) w1.heap.size (i + 2)) (w1.alloc (.map #[] 0)).heap.size i) ((w1.alloc (.map #[] 0)).alloc (.cells #[ptr fp, .map (some w1.heap.size)] 85)) := Sn.quiet ((Keeps.refl _ _).alloc _) _
  have hsz : (w1.alloc (.map #[] 0)).heap.size = w1.heap.size + 1 := by simp
  rw [hsz] at s2
  have mm := MapF.made w1
  refine ⟨_, _, rfl, ⟨⟨fp, w1.heap.size, fun _ _ => none, ⟨by rw [← hsz]; exact Cells.new _ _ _, give_new (Nat.le_refl _)⟩, FifoM.sn (I := fun _ => False) (FifoM.sn (I := fun _ => False) f1.it s1 (fun x => x)) s2 (fun x => x), mm.later (S := fun _ => False) s2.keeps (fun x => x), ?_, fun x hx => (by cases hx), zok_nil, holds_nil⟩, ?_, ?_⟩⟩
  · rw [s2.agree _ mm.lt]
    exact give_new (Nat.le_refl _)
  · exact ((k1.it.alloc _).alloc _)
  · intro k hk
    have h1 := k1.it.size
    rw [s2.agree _ (Nat.lt_of_lt_of_le hk (Nat.le_trans h1 s1.keeps.size)), s1.agree _ (Nat.lt_of_lt_of_le hk h1), give_old hk]
end Go.Proofs.YtnohcbdnhpaafaaDoor
