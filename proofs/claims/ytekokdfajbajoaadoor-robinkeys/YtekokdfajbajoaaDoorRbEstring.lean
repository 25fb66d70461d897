/-
  package robin at keys of type string: Next; the calls by owner
-/
import Derived.Test.YtekokdfajbajoaaDoorRbBstring
namespace Go.Proofs.YtekokdfajbajoaaDoor.Rbstring
open Go.RowKit

variable {w w' : World} {own own' : Nat → Nat} {i r mb s x z b p q j : Nat} {l t : List Nat} {kf : Nat → (List UInt8)} {pf nf : Nat → Option Nat} {k : (List UInt8)} {ks : List (List UInt8)} {F : (List UInt8) → Option Nat}

theorem next_none (h : RbI w r mb [] kf pf nf) : Calls Tryd.prog 17 #[ptr r] w fun e w' => e = .returned (.tuple #[kv [], .bool false]) ∧ w' = w := by
  have hl := len_ h
  go_enter Tryd.func17, Tryd.ntmps17
  go_upto_region 2 with (first | (go_at_call 19; refine hl.mono ?_; rintro e w' ⟨rfl, rfl⟩) | fail)
  go_wp2
  go_ret2
  exact ⟨rfl, rfl⟩
theorem next_nil (w : World) : Calls Tryd.prog 17 #[.pointer none] w fun e w' => e = .returned (.tuple #[kv [], .bool false]) ∧ w' = w := by
  have hl := len_nil w
  go_enter Tryd.func17, Tryd.ntmps17
  go_upto_region 2 with (first | (go_at_call 19; refine hl.mono ?_; rintro e w' ⟨rfl, rfl⟩) | fail)
  go_wp2
  go_ret2
  exact ⟨rfl, rfl⟩
theorem next_some (h : RbI w r mb (x :: t) kf pf nf) : Calls Tryd.prog 17 #[ptr r] w fun e w' => e = .returned (.tuple #[kv (kf x), .bool true]) ∧ Aside (RbI w' r mb (t ++ [x]) kf pf nf) ∧ Aside (Keeps (fun c => c = r) w w') := by
  have hl := len_ h
  obtain ⟨q, eq, qm⟩ := h.ring.behind (b := x) List.mem_cons_self
  have hx := h.seats x List.mem_cons_self
  rw [eq] at hx
  have c1 : w.cell? ⟨r, 1, none⟩ = some (ptr x) := h.box.cell 1
  have c2 : w.cell? ⟨x, 0, none⟩ = some (kv (kf x)) := hx.cell 0
  have c3 : w.cell? ⟨x, 2, none⟩ = some (ptr q) := hx.cell 2
  have f1 : ∀ j, w.frozen? ⟨r, j, none⟩ = false := h.box.frozen
  have e0 : ¬ (((x :: t).length : Nat) : Int) = 0 := by rw [List.length_cons]; omega
  have H := Aside.mk h
  clear h hx
  generalize hL : (((x :: t).length : Nat) : Int) = L at hl e0
  have HL := Aside.mk hL
  clear hL
  go_enter Tryd.func17, Tryd.ntmps17
  go_upto_region 4 with (first | (go_at_call 19; refine hl.mono ?_; rintro e w' ⟨rfl, rfl⟩) | fail)
  go_wp2
  go_ret2
  have h := H.it
  have nr : ∀ c ∈ x :: t, c ≠ r := fun c hc e => ne_box h.box (h.seats c hc) e.symm
  have sub : ∀ c, c ∈ t ++ [x] → c ∈ x :: t := fun c hc => by simpa [or_comm] using hc
  have k1 : Keeps (fun c => c = r) w' (w'.setCell ⟨r, 1, none⟩ (ptr q)) := (Keeps.refl _ _).setCell _ _ (fun _ => rfl)
  have hq : vF (t ++ [x])[0]? = ptr q := by
    have e1 := (h.ring 0 x rfl).1
    rw [eq] at e1
    rw [rot_get 0 (by omega)]
    rw [List.length_cons] at e1
    rw [← e1]
    rfl
  refine ⟨rfl, ⟨?_, ?_, fun c hc => (h.seats c (sub c hc)).later k1 (nr c (sub c hc)), ?_, fun a ha c hc => h.keys a (sub a ha) c (sub c hc), fun c hc => h.ky c (sub c hc), h.ring.rot⟩, ⟨k1⟩⟩
  · rw [hq]; exact h.box.setCell 1 (ptr q)
  · have e1 : fk (t ++ [x]) kf = fk (x :: t) kf := by
      funext k'
      cases e : fk (x :: t) kf k' with
      | none =>
        refine fk_out fun hm => fk_none e ?_
        obtain ⟨c, hc, ec⟩ := List.mem_map.1 hm
        exact List.mem_map.2 ⟨c, sub c hc, ec⟩
      | some c =>
        obtain ⟨hc, ec⟩ := fk_some e
        exact fk_eq (fun a ha c hc => h.keys a (sub a ha) c (sub c hc)) (by simpa [or_comm] using hc) ec
    rw [e1, show (t ++ [x]).length = (x :: t).length by simp]
    exact h.map.later k1 (map_ne h.map h.box)
  · have := h.nodup
    rw [List.nodup_cons] at this
    exact List.nodup_append.2 ⟨this.2, by simp, fun a ha b hb => by rw [List.mem_singleton.1 hb]; exact fun e => this.1 (e ▸ ha)⟩
/-- what the calls leave, by owner -/
theorem addO (h : RbO own i w r ks) (hk : Ky k) (hl : ks.length < maxLen) : Calls Tryd.prog 16 #[ptr r, kv k] w fun e w' => e = .returned (.bool (addT ks k)) ∧ Aside (Keeps (fun c => own c = i) w w' ∧ RbO (give own w.heap.size i) i w' r (addL ks k)) := by
  obtain ⟨mb, l, kf, pf, nf, h, h1, h2, h3, rfl⟩ := h
  cases hm : fk l kf k with
  | some b =>
    obtain ⟨hb, eb⟩ := fk_some hm
    have hin : k ∈ l.map kf := List.mem_map.2 ⟨b, hb, eb⟩
    refine (add_old h hk hm).mono ?_
    rintro e w' ⟨rfl, rfl⟩
    rw [addT_false hin, addL_in hin]
    exact ⟨rfl, Keeps.refl _ _, mb, l, kf, pf, nf, h, (give_old h.box.lt).trans h1, (give_old h.map.lt).trans h2, fun b hb => (give_old (h.seats b hb).lt).trans (h3 b hb), rfl⟩
  | none =>
    have hin := fk_none hm
    rw [List.length_map] at hl
    refine (add_new h hk hm hl).mono ?_
    rintro e w' ⟨rfl, s, pf', nf', hs, H, K⟩
    have hsl : s ∉ l := not_fresh h hs
    rw [addT_true hin, addL_new hin]
    refine ⟨rfl, K.it.mono ?_, mb, l ++ [s], upd kf s k, pf', nf', H.it, (give_old h.box.lt).trans h1, (give_old h.map.lt).trans h2, ?_, ?_⟩
    · rintro c (e | e | e) _
      · rw [e]; exact h1
      · rw [e]; exact h2
      · exact h3 c e
    · intro b hb
      rcases List.mem_append.1 hb with hb | hb
      · exact (give_old (h.seats b hb).lt).trans (h3 b hb)
      · rw [List.mem_singleton.1 hb]; exact give_new hs
    · rw [List.map_append, map_upd hsl, List.map_singleton, upd_same]
theorem nextO (h : RbO own i w r ks) : Calls Tryd.prog 17 #[ptr r] w fun e w' => e = .returned (.tuple #[kv (frst [] ks), .bool (some1 ks)]) ∧ Aside (Keeps (fun c => own c = i) w w' ∧ RbO (give own w.heap.size i) i w' r (rotL ks)) := by
  obtain ⟨mb, l, kf, pf, nf, h, h1, h2, h3, rfl⟩ := h
  have g1 := (give_old (i := i) h.box.lt).trans h1
  have g2 := (give_old (i := i) h.map.lt).trans h2
  have g3 : ∀ b ∈ l, give own w.heap.size i b = i := fun b hb => (give_old (h.seats b hb).lt).trans (h3 b hb)
  cases l with
  | nil =>
    refine (next_none h).mono ?_
    rintro e w' ⟨rfl, rfl⟩
    exact ⟨rfl, Keeps.refl _ _, mb, [], kf, pf, nf, h, g1, g2, g3, rfl⟩
  | cons x t =>
    refine (next_some h).mono ?_
    rintro e w' ⟨rfl, H, K⟩
    refine ⟨rfl, K.it.mono ?_, mb, t ++ [x], kf, pf, nf, H.it, g1, g2, fun b hb => g3 b (by simpa [or_comm] using hb), by simp [rotL]⟩
    rintro c e _
    rw [e]; exact h1
theorem hasO (h : RbO own i w r ks) (hk : Ky k) : Calls Tryd.prog 20 #[ptr r, kv k] w fun e w' => e = .returned (.bool (inT ks k)) ∧ w' = w := by
  obtain ⟨mb, l, kf, pf, nf, h, _, _, _, rfl⟩ := h
  exact has_ h hk
theorem lenO (h : RbO own i w r ks) : Calls Tryd.prog 19 #[ptr r] w fun e w' => e = .returned (.int .i64 ks.length) ∧ w' = w := by
  obtain ⟨mb, l, kf, pf, nf, h, _, _, _, rfl⟩ := h
  rw [List.length_map]
  exact len_ h
end Go.Proofs.YtekokdfajbajoaaDoor.Rbstring
