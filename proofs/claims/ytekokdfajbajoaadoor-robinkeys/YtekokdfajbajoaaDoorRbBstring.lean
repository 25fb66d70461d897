/-
  package robin at keys of type string: join, Add, leave, Remove
-/
import Derived.Test.YtekokdfajbajoaaDoorRbAstring
namespace Go.Proofs.YtekokdfajbajoaaDoor.Rbstring
open Go.RowKit

def Sts (w : World) (l : List Nat) (kf : Nat → (List UInt8)) (pf nf : Nat → Option Nat) : Prop := ∀ b ∈ l, Cells w b 69 [kv (kf b), vF (pf b), vF (nf b)]

variable {w w' : World} {own own' : Nat → Nat} {i r mb s x z b p q : Nat} {l : List Nat} {kf : Nat → (List UInt8)} {pf nf : Nat → Option Nat} {k : (List UInt8)} {ks : List (List UInt8)} {o o' : Option Nat} {n : Nat} {F : (List UInt8) → Option Nat} {e : TypeId} {xs : List Value} {fv u0 u2 u3 u4 u5 : Value}

theorem Sts.setN (h : Sts w l kf pf nf) : Sts (w.setCell ⟨b, 2, none⟩ (vF o)) l kf pf (upd nf b o) := by
  intro c hc
  by_cases e : c = b
  · subst e
    rw [upd_same]
    exact (h c hc).setCell 2 (vF o)
  · rw [upd_other _ _ e]
    exact (h c hc).setOther _ _ e
theorem Sts.setP (h : Sts w l kf pf nf) : Sts (w.setCell ⟨b, 1, none⟩ (vF o)) l kf (upd pf b o) nf := by
  intro c hc
  by_cases e : c = b
  · subst e
    rw [upd_same]
    exact (h c hc).setCell 1 (vF o)
  · rw [upd_other _ _ e]
    exact (h c hc).setOther _ _ e
theorem Sts.add (h : Sts w l kf pf nf) (hs : s ∉ l) (hc : Cells w s 69 [kv k, .pointer none, .pointer none]) : Sts w (l ++ [s]) (upd kf s k) (upd pf s none) (upd nf s none) := by
  intro c hm
  by_cases e : c = s
  · subst e
    rw [upd_same, upd_same, upd_same]
    exact hc
  · rw [upd_other _ _ e, upd_other _ _ e, upd_other _ _ e]
    rcases List.mem_append.1 hm with hm | hm
    · exact h c hm
    · exact absurd (List.mem_singleton.1 hm) e
theorem upd_upd {α : Type} (f : Nat → α) (b : Nat) (u v : α) : upd (upd f b u) b v = upd f b v := by
  funext c
  unfold upd
  split <;> rfl
theorem ne_box (h1 : Cells w r 65 [.map (some mb), fv]) (h2 : Cells w b 69 [kv k, vF o, vF o']) : r ≠ b := by
  rintro rfl
  have := h1.symm.trans h2
  simp at this

theorem join_none (hb : Cells w r 65 [.map (some mb), .pointer none]) (hc : Cells w s 69 [kv k, .pointer none, .pointer none]) (hne : r ≠ s) :
    Calls Tryd.prog 28 #[ptr r, ptr s] w fun e w' => e = .returned (.tuple #[]) ∧ w' = ((w.setCell ⟨s, 1, none⟩ (ptr s)).setCell ⟨s, 2, none⟩ (ptr s)).setCell ⟨r, 1, none⟩ (ptr s) := by
  have c1 : w.cell? ⟨r, 1, none⟩ = some (.pointer none) := hb.cell 1
  have c2 : w.cell? ⟨s, 1, none⟩ = some (.pointer none) := hc.cell 1
  have c3 : w.cell? ⟨s, 2, none⟩ = some (.pointer none) := hc.cell 2
  have f1 : ∀ j, w.frozen? ⟨r, j, none⟩ = false := hb.frozen
  have f2 : ∀ j, w.frozen? ⟨s, j, none⟩ = false := hc.frozen
  go_enter Tryd.func28, Tryd.ntmps28
  go_wp2
  refine bodyPost_ret (results_none rfl _ _ _) rfl ?_
  exact ⟨rfl, rfl⟩
theorem join_some (hb : Cells w r 65 [.map (some mb), ptr x]) (hc : Cells w s 69 [kv k, .pointer none, .pointer none]) (hx : Cells w x 69 [u0, ptr z, u2]) (hz : Cells w z 69 [u3, u4, u5]) (hrs : r ≠ s) (hrz : r ≠ z) (hsx : s ≠ x) (hsz : s ≠ z) :
    Calls Tryd.prog 28 #[ptr r, ptr s] w fun e w' => e = .returned (.tuple #[]) ∧ w' = (((w.setCell ⟨s, 1, none⟩ (ptr z)).setCell ⟨s, 2, none⟩ (ptr x)).setCell ⟨z, 2, none⟩ (ptr s)).setCell ⟨x, 1, none⟩ (ptr s) := by
  have c1 : w.cell? ⟨r, 1, none⟩ = some (ptr x) := hb.cell 1
  have c2 : w.cell? ⟨s, 1, none⟩ = some (.pointer none) := hc.cell 1
  have c3 : w.cell? ⟨s, 2, none⟩ = some (.pointer none) := hc.cell 2
  have c4 : w.cell? ⟨x, 1, none⟩ = some (ptr z) := hx.cell 1
  have c5 : w.cell? ⟨z, 2, none⟩ = some u5 := hz.cell 2
  have f1 : ∀ j, w.frozen? ⟨x, j, none⟩ = false := hx.frozen
  have f2 : ∀ j, w.frozen? ⟨s, j, none⟩ = false := hc.frozen
  have f3 : ∀ j, w.frozen? ⟨z, j, none⟩ = false := hz.frozen
  go_enter Tryd.func28, Tryd.ntmps28
  go_wp2
  go_end0
  exact ⟨rfl, rfl⟩
/-- what join leaves -/
theorem join_ (hb : Cells w r 65 [.map (some mb), vF l[0]?]) (hst : Sts w l kf pf nf) (hn : l.Nodup) (hr : Rg l pf nf) (hs : s ∉ l) (hc : Cells w s 69 [kv k, .pointer none, .pointer none]) :
    Calls Tryd.prog 28 #[ptr r, ptr s] w fun e w' => e = .returned (.tuple #[]) ∧ ∃ pf' nf', Cells w' r 65 [.map (some mb), vF (l ++ [s])[0]?] ∧ Sts w' (l ++ [s]) (upd kf s k) pf' nf' ∧ Rg (l ++ [s]) pf' nf' ∧ Keeps (fun c => c = r ∨ c ∈ l ++ [s]) w w' := by
  have hrs : r ≠ s := ne_box (o := none) (o' := none) hb hc
  have ha := hst.add hs hc
  cases l with
  | nil =>
    refine (join_none hb hc hrs).mono ?_
    rintro e w' ⟨rfl, rfl⟩
    refine ⟨rfl, _, _, ?_, ?_, Rg.one (pf := upd pf s none) (nf := upd nf s none), ?_⟩
    · exact ((hb.setOther ⟨s, 1, none⟩ (ptr s) hrs).setOther ⟨s, 2, none⟩ (ptr s) hrs).setCell 1 (ptr s)
    · have h := (ha.setP (b := s) (o := some s)).setN (b := s) (o := some s)
      exact fun c hc => (h c hc).setOther ⟨r, 1, none⟩ (ptr s) (by rw [List.nil_append, List.mem_singleton] at hc; rw [hc]; exact fun e => hrs e.symm)
    · exact (((Keeps.refl _ _).setCell _ _ (fun _ => .inr (by simp))).setCell _ _ (fun _ => .inr (by simp))).setCell _ _ (fun _ => .inl rfl)
  | cons x t =>
    obtain ⟨z, hz⟩ : ∃ z, (x :: t)[(x :: t).length - 1]? = some z := ⟨_, List.getElem?_eq_getElem (by simp)⟩
    have hxm : x ∈ x :: t := List.mem_cons_self
    have hzm := List.mem_of_getElem? hz
    have hx := hst x hxm
    have hzc := hst z hzm
    have ex : pf x = some z := (hr 0 x rfl).2.trans hz
    rw [ex] at hx
    have hrx : r ≠ x := ne_box hb hx
    have hrz : r ≠ z := ne_box hb hzc
    have sx : s ≠ x := fun e => hs (e ▸ hxm)
    have sz : s ≠ z := fun e => hs (e ▸ hzm)
    refine (join_some hb hc hx hzc hrs hrz sx sz).mono ?_
    rintro e w' ⟨rfl, rfl⟩
    have h := (((ha.setP (b := s) (o := some z)).setN (b := s) (o := some x)).setN (b := z) (o := some s)).setP (b := x) (o := some s)
    rw [upd_upd, upd_upd] at h
    refine ⟨rfl, _, _, ?_, h, Rg.join hn hs rfl hz hr, ?_⟩
    · exact (((hb.setOther ⟨s, 1, none⟩ (ptr z) hrs).setOther ⟨s, 2, none⟩ (ptr x) hrs).setOther ⟨z, 2, none⟩ (ptr s) hrz).setOther ⟨x, 1, none⟩ (ptr s) hrx
    · have m1 : ∀ c ∈ x :: t, c ∈ x :: t ++ [s] := fun c hc => List.mem_append_left _ hc
      exact ((((Keeps.refl _ _).setCell _ _ (fun _ => .inr (by simp))).setCell _ _ (fun _ => .inr (by simp))).setCell _ _ (fun _ => .inr (m1 _ hzm))).setCell _ _ (fun _ => .inr (m1 _ hxm))

theorem not_fresh (h : RbI w r mb l kf pf nf) {g : Nat} (hg : w.heap.size ≤ g) : g ∉ l := fun hm => by have := (h.seats g hm).lt; omega
theorem map_ne (h : MapB w mb n F) (hc : Cells w b e xs) : mb ≠ b := by
  rintro rfl
  obtain ⟨es, c, h1⟩ := h.isMap
  rw [hc] at h1
  cases h1
theorem add_old (h : RbI w r mb l kf pf nf) (hk : Ky k) (hm : fk l kf k = some b) : Calls Tryd.prog 16 #[ptr r, kv k] w fun e w' => e = .returned (.bool false) ∧ w' = w := by
  have hf := find_ h hk
  rw [hm] at hf
  simp only [vF] at hf
  go_enter Tryd.func16, Tryd.ntmps16
  go_upto_region 2 with (first | (go_at_call 27; refine hf.mono ?_; rintro e w' ⟨rfl, rfl⟩) | fail)
  go_wp2
  go_ret
  exact ⟨rfl, rfl⟩
theorem add_nil (k : (List UInt8)) (w : World) : Calls Tryd.prog 16 #[.pointer none, kv k] w fun e w' => e = .returned (.bool false) ∧ w' = w := by
  have hf := find_nil k w
  go_enter Tryd.func16, Tryd.ntmps16
  go_upto_region 2 with (first | (go_at_call 27; refine hf.mono ?_; rintro e w' ⟨rfl, rfl⟩) | fail)
  go_wp2
  go_ret
  exact ⟨rfl, rfl⟩
theorem add_new (h : RbI w r mb l kf pf nf) (hk : Ky k) (hm : fk l kf k = none) (hl : l.length < maxLen) : Calls Tryd.prog 16 #[ptr r, kv k] w fun e w' => e = .returned (.bool true) ∧ ∃ s pf' nf', w.heap.size ≤ s ∧ Aside (RbI w' r mb (l ++ [s]) (upd kf s k) pf' nf') ∧ Aside (Keeps (fun c => c = r ∨ c = mb ∨ c ∈ l) w w') := by
  have hf := find_ h hk
  rw [hm] at hf
  simp only [vF] at hf
  obtain ⟨s, hs⟩ : ∃ s, s = w.heap.size := ⟨_, rfl⟩
  obtain ⟨w1, hw1⟩ : ∃ w1, w1 = w.alloc (.cells #[kv k, .pointer none, .pointer none] 69) := ⟨_, rfl⟩
  have k1 : Keeps Nowhere w w1 := by rw [hw1]; exact (Keeps.refl _ _).alloc _
  have hc : Cells w1 s 69 [kv k, .pointer none, .pointer none] := by rw [hw1, hs]; exact Cells.new w 69 _
  have h1 := h.later k1 (fun x => x) (fun x => x) (fun _ _ x => x)
  have c0 : w1.cell? ⟨r, 0, none⟩ = some (.map (some mb)) := h1.box.cell 0
  obtain ⟨w2, hst, hm2, k2⟩ := h1.map.store hl hk hm s
  have nr : r ≠ mb := fun e => map_ne h1.map h1.box e.symm
  have nm : ∀ b, ∀ xs, Cells w1 b 69 xs → b ≠ mb := fun b xs hb e => map_ne h1.map hb e.symm
  have hsl : s ∉ l := not_fresh h (by omega)
  have j := join_ (h1.box.later k2 nr) (fun b hb => (h1.seats b hb).later k2 (nm b _ (h1.seats b hb))) h.nodup h.ring hsl (hc.later k2 (nm s _ hc))
  have e1 : setK (fk l kf) k (some s) = fk (l ++ [s]) (upd kf s k) := (fk_snoc hsl hm).symm
  rw [e1] at hm2
  have H := Aside.mk (And.intro h (And.intro hm2 (And.intro k1 k2)))
  have N := Aside.mk (And.intro nr (And.intro hsl (nm s _ hc)))
  have NB := Aside.mk (fun b hb => nm b _ (h1.seats b hb))
  have HC := Aside.mk hc
  clear h hm2 k1 k2 nm nr hsl h1 hc
  go_enter Tryd.func16, Tryd.ntmps16
  go_upto_region 5 with (first | (go_at_call 27; refine hf.mono ?_; rintro e w' ⟨rfl, rfl⟩) | fail)
  rw [← hs, ← hw1]
  have HS := Aside.mk hs
  clear hf hw1 hs
  go_upto_region 7 with (first | (go_at_call 28; refine j.mono ?_; clear j; rintro e w3 ⟨rfl, pf', nf', hb, hst, hr, hk⟩; have J := Aside.mk (And.intro hb (And.intro hst (And.intro hr hk))); clear hb hst hr hk) | fail)
  go_wp2
  go_ret
  obtain ⟨h, hm2, k1, k2⟩ := H.it
  have hs := HS.it
  obtain ⟨nr, hsl, ns⟩ := N.it
  obtain ⟨hb, hst, hr, k3⟩ := J.it
  have nw : ∀ c ∈ l ++ [s], c ≠ mb := by
    intro c hc
    rcases List.mem_append.1 hc with hc | hc
    · exact NB.it c hc
    · rw [List.mem_singleton.1 hc]; exact ns
  refine ⟨rfl, s, pf', nf', by omega, ⟨hb, ?_, hst, ?_, ?_, ?_, hr⟩, ⟨?_⟩⟩
  · rw [List.length_append]
    refine hm2.later k3 ?_
    rintro (e | e)
    · exact nr e.symm
    · exact nw mb e rfl
  · exact List.nodup_append.2 ⟨h.nodup, by simp, fun a ha b hb => by rw [List.mem_singleton.1 hb]; exact fun e => hsl (e ▸ ha)⟩
  · intro b hb c hc e
    have key : ∀ b ∈ l, kf b ≠ k := fun b hb e => fk_none hm (List.mem_map.2 ⟨b, hb, e⟩)
    rcases List.mem_append.1 hb with hb | hb <;> rcases List.mem_append.1 hc with hc | hc
    · rw [upd_other (b := s) _ _ (fun e => hsl (e ▸ hb)), upd_other (b := s) _ _ (fun e => hsl (e ▸ hc))] at e
      exact h.keys b hb c hc e
    · rw [List.mem_singleton.1 hc, upd_same, upd_other (b := s) _ _ (fun e => hsl (e ▸ hb))] at e
      exact absurd e (key b hb)
    · rw [List.mem_singleton.1 hb, upd_same, upd_other (b := s) _ _ (fun e => hsl (e ▸ hc))] at e
      exact absurd e.symm (key c hc)
    · rw [List.mem_singleton.1 hb, List.mem_singleton.1 hc]
  · intro b hb
    rcases List.mem_append.1 hb with hb | hb
    · rw [upd_other (b := s) _ _ (fun e => hsl (e ▸ hb))]; exact h.ky b hb
    · rw [List.mem_singleton.1 hb, upd_same]; exact hk
  · refine ((k1.any.next k2 (fun c e _ => .inr (.inl e))).next k3 ?_)
    rintro c (e | e) hlt
    · exact .inl e
    · rcases List.mem_append.1 e with e | e
      · exact .inr (.inr e)
      · rw [List.mem_singleton.1 e] at hlt; omega
end Go.Proofs.YtekokdfajbajoaaDoor.Rbstring
