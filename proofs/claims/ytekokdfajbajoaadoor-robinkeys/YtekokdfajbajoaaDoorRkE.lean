/-
  package robin at law 12's keys: Next; the calls by owner
-/
import Derived.Test.YtekokdfajbajoaaDoorRkC
import Derived.Laws.ResultCell
namespace Go.Proofs.YtekokdfajbajoaaDoor.Rbkey
open Go.RowKit

variable {w w' : World} {own own' : Nat → Nat} {i r mb s x z b p q j : Nat} {l t : List Nat} {kf : Nat → Int} {pf nf : Nat → Option Nat} {k : Int} {ks : List Int} {F : Int → Option Nat}

def zk : Value := .agg #[.string ⟨#[]⟩, .int .u32 0]
theorem next_none (h : RbI w r mb [] kf pf nf) : Calls Tryd.prog 12 #[ptr r] w fun e w' => e = .returned (.tuple #[zk, .bool false]) ∧ Keeps Nowhere w w' := by
  obtain ⟨w1, hw1⟩ : ∃ w1, w1 = w.alloc (.cells #[.string ⟨#[]⟩, .int .u32 0] 28) := ⟨_, rfl⟩
  obtain ⟨g, hg⟩ : ∃ g, g = w.heap.size := ⟨_, rfl⟩
  have k1 : Keeps Nowhere w w1 := by rw [hw1]; exact (Keeps.refl _ _).alloc _
  have hc : Cells w1 g 28 [.string ⟨#[]⟩, .int .u32 0] := by rw [hw1, hg]; exact Cells.new w _ _
  have hl := len_ (h.later k1 (fun x => x) (fun x => x) (fun _ _ x => x))
  have K1 := Aside.mk (And.intro k1 (And.intro hc hg))
  clear h hc k1
  go_enter Tryd.func12, Tryd.ntmps12
  go_upto_region 1 with fail
  rw [← hg, ← hw1]
  clear hg hw1
  go_upto_region 2 with (first | (go_at_call 14; refine hl.mono ?_; clear hl; rintro e w' ⟨rfl, rfl⟩) | fail)
  go_upto_region 3 with fail
  obtain ⟨k1, hc, hg⟩ := K1.it
  obtain ⟨w2, hw2⟩ : ∃ w2, w2 = w'.alloc (.cells #[.string ⟨#[]⟩, .int .u32 0] 28) := ⟨_, rfl⟩
  obtain ⟨g2, hg2⟩ : ∃ g2, g2 = w'.heap.size := ⟨_, rfl⟩
  have k2 : Keeps Nowhere w' w2 := by rw [hw2]; exact (Keeps.refl _ _).alloc _
  have hc2 : Cells w2 g2 28 [.string ⟨#[]⟩, .int .u32 0] := by rw [hw2, hg2]; exact Cells.new w' _ _
  have hc3 := hc.later k2 (fun x => x)
  have d0 : w2.cell? ⟨g2, 0, none⟩ = some (.string ⟨#[]⟩) := hc2.cell 0
  have d1 : w2.cell? ⟨g2, 1, none⟩ = some (.int .u32 0) := hc2.cell 1
  have d2 : w2.cell? ⟨g, 0, none⟩ = some (.string ⟨#[]⟩) := hc3.cell 0
  have d3 : w2.cell? ⟨g, 1, none⟩ = some (.int .u32 0) := hc3.cell 1
  have f1 : ∀ j, w2.frozen? ⟨g, j, none⟩ = false := hc3.frozen
  rw [← hg2, ← hw2]
  have K3 := Aside.mk (And.intro (k1.trans k2) hg)
  clear k1 hc hg hw2 hg2 k2 hc2 hc3 K1
  go_wp2
  have k4 : Keeps Nowhere w ((w2.setCell ⟨g, 0, none⟩ (.string ⟨#[]⟩)).setCell ⟨g, 1, none⟩ (.int .u32 0)) := (K3.it.1.setCell ⟨g, 0, none⟩ _ (fun h => absurd h (by show ¬ g < _; have := K3.it.2; omega))).setCell ⟨g, 1, none⟩ _ (fun h => absurd h (by show ¬ g < _; have := K3.it.2; omega))
  refine bodyPost_ret (v := .tuple #[zk, .bool false]) ?_ rfl ⟨rfl, k4⟩
  rw [results_cell_tmp rfl]
  simp [go_sem, d2, d3, zk, loadVar]
theorem next_some (h : RbI w r mb (x :: t) kf pf nf) : Calls Tryd.prog 12 #[ptr r] w fun e w' => e = .returned (.tuple #[kv (kf x), .bool true]) ∧ Aside (RbI w' r mb (t ++ [x]) kf pf nf) ∧ Aside (Keeps (fun c => c = r) w w') := by
  obtain ⟨w1, hw1⟩ : ∃ w1, w1 = w.alloc (.cells #[.string ⟨#[]⟩, .int .u32 0] 28) := ⟨_, rfl⟩
  obtain ⟨g, hg⟩ : ∃ g, g = w.heap.size := ⟨_, rfl⟩
  have k1 : Keeps Nowhere w w1 := by rw [hw1]; exact (Keeps.refl _ _).alloc _
  have hc : Cells w1 g 28 [.string ⟨#[]⟩, .int .u32 0] := by rw [hw1, hg]; exact Cells.new w _ _
  obtain ⟨q, eq, qm⟩ := h.ring.behind (b := x) List.mem_cons_self
  have h1 := h.later k1 (fun x => x) (fun x => x) (fun _ _ x => x)
  have hl := len_ h1
  obtain ⟨bx, hbx⟩ : ∃ bx, kt (kf x) = .string bx := ⟨_, rfl⟩
  obtain ⟨nx, hnx⟩ : ∃ nx, kn (kf x) = .int .u32 nx := ⟨_, rfl⟩
  obtain ⟨w2, hw2⟩ : ∃ w2, w2 = w1.alloc (.cells #[.string bx, .int .u32 nx] 28) := ⟨_, rfl⟩
  obtain ⟨g2, hg2⟩ : ∃ g2, g2 = w1.heap.size := ⟨_, rfl⟩
  have k2 : Keeps Nowhere w1 w2 := by rw [hw2]; exact (Keeps.refl _ _).alloc _
  have hc2 : Cells w2 g2 28 [.string bx, .int .u32 nx] := by rw [hw2, hg2]; exact Cells.new w1 _ _
  have hc3 := hc.later k2 (fun x => x)
  have h2 := h1.later k2 (fun x => x) (fun x => x) (fun _ _ x => x)
  have hx := h1.seats x List.mem_cons_self
  have hx2 := h2.seats x List.mem_cons_self
  rw [eq, hbx, hnx] at hx hx2
  have a1 : w1.cell? ⟨r, 1, none⟩ = some (ptr x) := h1.box.cell 1
  have a2 : w1.cell? ⟨x, 0, none⟩ = some (.string bx) := hx.cell 0
  have a3 : w1.cell? ⟨x, 1, none⟩ = some (.int .u32 nx) := hx.cell 1
  have c1 : w2.cell? ⟨r, 1, none⟩ = some (ptr x) := h2.box.cell 1
  have c3 : w2.cell? ⟨x, 3, none⟩ = some (ptr q) := hx2.cell 3
  have f1 : ∀ j, w2.frozen? ⟨r, j, none⟩ = false := h2.box.frozen
  have f2 : ∀ j, w2.frozen? ⟨g, j, none⟩ = false := hc3.frozen
  have d0 : w2.cell? ⟨g2, 0, none⟩ = some (.string bx) := hc2.cell 0
  have d1 : w2.cell? ⟨g2, 1, none⟩ = some (.int .u32 nx) := hc2.cell 1
  have d2 : w2.cell? ⟨g, 0, none⟩ = some (.string ⟨#[]⟩) := hc3.cell 0
  have d3 : w2.cell? ⟨g, 1, none⟩ = some (.int .u32 0) := hc3.cell 1
  have n1 : r ≠ g := by have := h.box.lt; omega
  have n2 : r ≠ g2 := by have := h.box.lt; have := k1.size; omega
  have n3 : g ≠ g2 := by have := hc.lt; omega
  have e0 : ¬ (((x :: t).length : Nat) : Int) = 0 := by rw [List.length_cons]; omega
  generalize hL : (((x :: t).length : Nat) : Int) = L at hl e0
  have H := Aside.mk (And.intro h2 (And.intro (k1.trans k2) (And.intro hg (And.intro (fun c (hc : c ∈ x :: t) => (by have := (h.seats c hc).lt; omega : c ≠ g)) (by have := h.map.lt; omega : mb ≠ g)))))
  have HB := Aside.mk (And.intro hbx hnx)
  clear h h1 h2 hx hx2 hL k1 k2 hc hc2 hc3 hbx hnx
  go_enter Tryd.func12, Tryd.ntmps12
  go_upto_region 1 with fail
  rw [← hg, ← hw1]
  clear hg hw1
  go_upto_region 4 with (first | (go_at_call 14; refine hl.mono ?_; clear hl; rintro e w' ⟨rfl, rfl⟩) | fail)
  go_upto_region 5 with fail
  rw [← hg2, ← hw2]
  clear hg2 hw2
  go_wp2
  have k4 : Keeps (fun c => c = r) w (((w2.setCell ⟨r, 1, none⟩ (ptr q)).setCell ⟨g, 0, none⟩ (.string bx)).setCell ⟨g, 1, none⟩ (.int .u32 nx)) := (((H.it.2.1.any (S := fun c => c = r)).setCell ⟨r, 1, none⟩ _ (fun _ => rfl)).setCell ⟨g, 0, none⟩ _ (fun h => absurd h (by show ¬ g < _; have := H.it.2.2.1; omega))).setCell ⟨g, 1, none⟩ _ (fun h => absurd h (by show ¬ g < _; have := H.it.2.2.1; omega))
  refine bodyPost_ret (v := .tuple #[.agg #[.string bx, .int .u32 nx], .bool true]) ?_ rfl ?_
  · rw [results_cell_tmp rfl]
    simp [go_sem, d2, d3, loadVar]
  obtain ⟨h, _, hg, ng, nmg⟩ := H.it
  obtain ⟨hbx, hnx⟩ := HB.it
  have nr : ∀ c ∈ x :: t, c ≠ r := fun c hc e => ne_box h.box (h.seats c hc) e.symm
  have sub : ∀ c, c ∈ t ++ [x] → c ∈ x :: t := fun c hc => by simpa [or_comm] using hc
  have k1 : Keeps (fun c => c = r ∨ c = g) w2 (((w2.setCell ⟨r, 1, none⟩ (ptr q)).setCell ⟨g, 0, none⟩ (.string bx)).setCell ⟨g, 1, none⟩ (.int .u32 nx)) := (((Keeps.refl (fun c => c = r ∨ c = g) w2).setCell ⟨r, 1, none⟩ _ (fun _ => .inl rfl)).setCell ⟨g, 0, none⟩ _ (fun _ => .inr rfl)).setCell ⟨g, 1, none⟩ _ (fun _ => .inr rfl)
  have hq : vF (t ++ [x])[0]? = ptr q := by
    have e1 := (h.ring 0 x rfl).1
    rw [eq] at e1
    rw [rot_get 0 (by omega)]
    rw [List.length_cons] at e1
    rw [← e1]
    rfl
  refine ⟨by unfold kv; rw [hbx, hnx], ⟨?_, ?_, fun c hc => (h.seats c (sub c hc)).later k1 (fun e => e.elim (nr c (sub c hc)) (ng c (sub c hc))), ?_, fun a ha c hc => h.keys a (sub a ha) c (sub c hc), fun c hc => h.ky c (sub c hc), h.ring.rot⟩, ⟨k4⟩⟩
  · rw [hq]
    exact ((h.box.setCell 1 (ptr q)).setOther ⟨g, 0, none⟩ _ n1).setOther ⟨g, 1, none⟩ _ n1
  · have e1 : fk (t ++ [x]) kf = fk (x :: t) kf := by
      funext k'
      cases e : fk (x :: t) kf k' with
      | none =>
        refine fk_out fun hm => fk_none e ?_
        obtain ⟨c, hc, ec⟩ := List.mem_map.1 hm
        exact List.mem_map.2 ⟨c, sub c hc, ec⟩
      | some c =>
        obtain ⟨hc, ec⟩ := fk_some e
        exact fk_eq (fun a ha c hc => h.keys a (sub a ha) c (sub c hc)) (by simpa [or_comm] using hc) ec
    rw [e1, show (t ++ [x]).length = (x :: t).length by simp]
    exact h.map.later k1 (fun e => e.elim (map_ne h.map h.box) nmg)
  · have := h.nodup
    rw [List.nodup_cons] at this
    exact List.nodup_append.2 ⟨this.2, by simp, fun a ha b hb => by rw [List.mem_singleton.1 hb]; exact fun e => this.1 (e ▸ ha)⟩
/-- what the calls leave, by owner -/
theorem addO (h : RbO own i w r ks) (hk : Ky k) (hl : ks.length < maxLen) : Calls Tryd.prog 8 #[ptr r, kv k] w fun e w' => e = .returned (.bool (addT ks k)) ∧ Aside (Keeps (fun c => own c = i) w w' ∧ RbO (give own w.heap.size i) i w' r (addL ks k)) := by
  obtain ⟨mb, l, kf, pf, nf, h, h1, h2, h3, rfl⟩ := h
  cases hm : fk l kf k with
  | some b =>
    obtain ⟨hb, eb⟩ := fk_some hm
    have hin : k ∈ l.map kf := List.mem_map.2 ⟨b, hb, eb⟩
    refine (add_old h hk hm).mono ?_
    rintro e w' ⟨rfl, k1⟩
    rw [addT_false hin, addL_in hin]
    exact ⟨rfl, k1.any, mb, l, kf, pf, nf, h.later k1 (fun x => x) (fun x => x) (fun _ _ x => x), (give_old h.box.lt).trans h1, (give_old h.map.lt).trans h2, fun b hb => (give_old (h.seats b hb).lt).trans (h3 b hb), rfl⟩
  | none =>
    have hin := fk_none hm
    rw [List.length_map] at hl
    refine (add_new h hk hm hl).mono ?_
    rintro e w' ⟨rfl, s, pf', nf', hs, H, K⟩
    have hsl : s ∉ l := not_fresh h hs
    rw [addT_true hin, addL_new hin]
    refine ⟨rfl, K.it.mono ?_, mb, l ++ [s], upd kf s k, pf', nf', H.it, (give_old h.box.lt).trans h1, (give_old h.map.lt).trans h2, ?_, ?_⟩
    · rintro c (e | e | e) _
      · rw [e]; exact h1
      · rw [e]; exact h2
      · exact h3 c e
    · intro b hb
      rcases List.mem_append.1 hb with hb | hb
      · exact (give_old (h.seats b hb).lt).trans (h3 b hb)
      · rw [List.mem_singleton.1 hb]; exact give_new hs
    · rw [List.map_append, map_upd hsl, List.map_singleton, upd_same]
/-- the first key, or none -/
def nk : List Int → Value
  | [] => zk
  | k :: _ => kv k
theorem nextO (h : RbO own i w r ks) : Calls Tryd.prog 12 #[ptr r] w fun e w' => e = .returned (.tuple #[nk ks, .bool (some1 ks)]) ∧ Aside (Keeps (fun c => own c = i) w w' ∧ RbO (give own w.heap.size i) i w' r (rotL ks)) := by
  obtain ⟨mb, l, kf, pf, nf, h, h1, h2, h3, rfl⟩ := h
  have g1 := (give_old (i := i) h.box.lt).trans h1
  have g2 := (give_old (i := i) h.map.lt).trans h2
  have g3 : ∀ b ∈ l, give own w.heap.size i b = i := fun b hb => (give_old (h.seats b hb).lt).trans (h3 b hb)
  cases l with
  | nil =>
    refine (next_none h).mono ?_
    rintro e w' ⟨rfl, k1⟩
    exact ⟨rfl, k1.any, mb, [], kf, pf, nf, h.later k1 (fun x => x) (fun x => x) (fun _ _ x => x), g1, g2, g3, rfl⟩
  | cons x t =>
    refine (next_some h).mono ?_
    rintro e w' ⟨rfl, H, K⟩
    refine ⟨rfl, K.it.mono ?_, mb, t ++ [x], kf, pf, nf, H.it, g1, g2, fun b hb => g3 b (by simpa [or_comm] using hb), by simp [rotL]⟩
    rintro c e _
    rw [e]; exact h1
theorem lenO (h : RbO own i w r ks) : Calls Tryd.prog 14 #[ptr r] w fun e w' => e = .returned (.int .i64 ks.length) ∧ w' = w := by
  obtain ⟨mb, l, kf, pf, nf, h, _, _, _, rfl⟩ := h
  rw [List.length_map]
  exact len_ h
theorem removeO (h : RbO own i w r ks) (hk : Ky k) : Calls Tryd.prog 10 #[ptr r, kv k] w fun e w' => e = .returned (.bool (inT ks k)) ∧ Aside (Keeps (fun c => own c = i) w w' ∧ RbO (give own w.heap.size i) i w' r (remL ks k)) := by
  obtain ⟨mb, l, kf, pf, nf, h, h1, h2, h3, rfl⟩ := h
  have g1 := (give_old (i := i) h.box.lt).trans h1
  have g2 := (give_old (i := i) h.map.lt).trans h2
  have g3 : ∀ b ∈ l, give own w.heap.size i b = i := fun b hb => (give_old (h.seats b hb).lt).trans (h3 b hb)
  cases hm : fk l kf k with
  | none =>
    have hin := fk_none hm
    refine (remove_none h hk hm).mono ?_
    rintro e w' ⟨rfl, k1⟩
    unfold inT remL
    rw [decide_eq_false hin, List.erase_of_not_mem hin]
    exact ⟨rfl, k1.any, mb, l, kf, pf, nf, h.later k1 (fun x => x) (fun x => x) (fun _ _ x => x), g1, g2, g3, rfl⟩
  | some b =>
    obtain ⟨hb, eb⟩ := fk_some hm
    have hin : k ∈ l.map kf := List.mem_map.2 ⟨b, hb, eb⟩
    obtain ⟨j, hj⟩ := List.mem_iff_getElem?.1 hb
    refine (remove_some h hk hm hj).mono ?_
    rintro e w' ⟨rfl, pf', nf', H, K⟩
    unfold inT remL
    rw [decide_eq_true hin, ← map_erase h.keys hj h.nodup eb]
    refine ⟨rfl, K.it.mono ?_, mb, l.eraseIdx j, kf, pf', nf', H.it, g1, g2, fun b hb => g3 b (List.mem_of_mem_eraseIdx hb), rfl⟩
    rintro c (e | e | e) _
    · rw [e]; exact h1
    · rw [e]; exact h2
    · exact h3 c e
end Go.Proofs.YtekokdfajbajoaaDoor.Rbkey
