/-
  package robin at law 12's keys: join, Add, leave, Remove
-/
import Derived.Test.YtekokdfajbajoaaDoorRkA
namespace Go.Proofs.YtekokdfajbajoaaDoor.Rbkey
open Go.RowKit

def Sts (w : World) (l : List Nat) (kf : Nat → Int) (pf nf : Nat → Option Nat) : Prop := ∀ b ∈ l, Cells w b 60 [kt (kf b), kn (kf b), vF (pf b), vF (nf b)]

variable {w w' : World} {own own' : Nat → Nat} {i r mb s x z b p q : Nat} {l : List Nat} {kf : Nat → Int} {pf nf : Nat → Option Nat} {k : Int} {ks : List Int} {o o' : Option Nat} {n : Nat} {F : Int → Option Nat} {e : TypeId} {xs : List Value} {fv u0 u1 u2 u3 u4 u5 u6 : Value}

theorem Sts.setN (h : Sts w l kf pf nf) : Sts (w.setCell ⟨b, 3, none⟩ (vF o)) l kf pf (upd nf b o) := by
  intro c hc
  by_cases e : c = b
  · subst e
    rw [upd_same]
    exact (h c hc).setCell 3 (vF o)
  · rw [upd_other _ _ e]
    exact (h c hc).setOther _ _ e
theorem Sts.setP (h : Sts w l kf pf nf) : Sts (w.setCell ⟨b, 2, none⟩ (vF o)) l kf (upd pf b o) nf := by
  intro c hc
  by_cases e : c = b
  · subst e
    rw [upd_same]
    exact (h c hc).setCell 2 (vF o)
  · rw [upd_other _ _ e]
    exact (h c hc).setOther _ _ e
theorem Sts.add (h : Sts w l kf pf nf) (hs : s ∉ l) (hc : Cells w s 60 [kt k, kn k, .pointer none, .pointer none]) : Sts w (l ++ [s]) (upd kf s k) (upd pf s none) (upd nf s none) := by
  intro c hm
  by_cases e : c = s
  · subst e
    rw [upd_same, upd_same, upd_same]
    exact hc
  · rw [upd_other _ _ e, upd_other _ _ e, upd_other _ _ e]
    rcases List.mem_append.1 hm with hm | hm
    · exact h c hm
    · exact absurd (List.mem_singleton.1 hm) e
theorem upd_upd {α : Type} (f : Nat → α) (b : Nat) (u v : α) : upd (upd f b u) b v = upd f b v := by
  funext c
  unfold upd
  split <;> rfl
theorem ne_box (h1 : Cells w r 54 [.map (some mb), fv]) (h2 : Cells w b 60 [kt k, kn k, vF o, vF o']) : r ≠ b := by
  rintro rfl
  have := h1.symm.trans h2
  simp at this

theorem join_none (hb : Cells w r 54 [.map (some mb), .pointer none]) (hc : Cells w s 60 [kt k, kn k, .pointer none, .pointer none]) (_ : r ≠ s) :
    Calls Tryd.prog 25 #[ptr r, ptr s] w fun e w' => e = .returned (.tuple #[]) ∧ w' = ((w.setCell ⟨s, 2, none⟩ (ptr s)).setCell ⟨s, 3, none⟩ (ptr s)).setCell ⟨r, 1, none⟩ (ptr s) := by
  have c1 : w.cell? ⟨r, 1, none⟩ = some (.pointer none) := hb.cell 1
  have c2 : w.cell? ⟨s, 2, none⟩ = some (.pointer none) := hc.cell 2
  have c3 : w.cell? ⟨s, 3, none⟩ = some (.pointer none) := hc.cell 3
  have f1 : ∀ j, w.frozen? ⟨r, j, none⟩ = false := hb.frozen
  have f2 : ∀ j, w.frozen? ⟨s, j, none⟩ = false := hc.frozen
  go_enter Tryd.func25, Tryd.ntmps25
  go_wp2
  refine bodyPost_ret (results_none rfl _ _ _) rfl ?_
  exact ⟨rfl, rfl⟩
theorem join_some (hb : Cells w r 54 [.map (some mb), ptr x]) (hc : Cells w s 60 [kt k, kn k, .pointer none, .pointer none]) (hx : Cells w x 60 [u0, u1, ptr z, u2]) (hz : Cells w z 60 [u3, u6, u4, u5]) (_ : r ≠ s) (_ : r ≠ z) (hsx : s ≠ x) (hsz : s ≠ z) :
    Calls Tryd.prog 25 #[ptr r, ptr s] w fun e w' => e = .returned (.tuple #[]) ∧ w' = (((w.setCell ⟨s, 2, none⟩ (ptr z)).setCell ⟨s, 3, none⟩ (ptr x)).setCell ⟨z, 3, none⟩ (ptr s)).setCell ⟨x, 2, none⟩ (ptr s) := by
  have c1 : w.cell? ⟨r, 1, none⟩ = some (ptr x) := hb.cell 1
  have c2 : w.cell? ⟨s, 2, none⟩ = some (.pointer none) := hc.cell 2
  have c3 : w.cell? ⟨s, 3, none⟩ = some (.pointer none) := hc.cell 3
  have c4 : w.cell? ⟨x, 2, none⟩ = some (ptr z) := hx.cell 2
  have c5 : w.cell? ⟨z, 3, none⟩ = some u5 := hz.cell 3
  have f1 : ∀ j, w.frozen? ⟨x, j, none⟩ = false := hx.frozen
  have f2 : ∀ j, w.frozen? ⟨s, j, none⟩ = false := hc.frozen
  have f3 : ∀ j, w.frozen? ⟨z, j, none⟩ = false := hz.frozen
  go_enter Tryd.func25, Tryd.ntmps25
  go_wp2
  go_end0
  exact ⟨rfl, rfl⟩
/-- what join leaves -/
theorem join_ (hb : Cells w r 54 [.map (some mb), vF l[0]?]) (hst : Sts w l kf pf nf) (hn : l.Nodup) (hr : Rg l pf nf) (hs : s ∉ l) (hc : Cells w s 60 [kt k, kn k, .pointer none, .pointer none]) :
    Calls Tryd.prog 25 #[ptr r, ptr s] w fun e w' => e = .returned (.tuple #[]) ∧ ∃ pf' nf', Cells w' r 54 [.map (some mb), vF (l ++ [s])[0]?] ∧ Sts w' (l ++ [s]) (upd kf s k) pf' nf' ∧ Rg (l ++ [s]) pf' nf' ∧ Keeps (fun c => c = r ∨ c ∈ l ++ [s]) w w' := by
  have hrs : r ≠ s := ne_box (o := none) (o' := none) hb hc
  have ha := hst.add hs hc
  cases l with
  | nil =>
    refine (join_none hb hc hrs).mono ?_
    rintro e w' ⟨rfl, rfl⟩
    refine ⟨rfl, _, _, ?_, ?_, Rg.one (pf := upd pf s none) (nf := upd nf s none), ?_⟩
    · exact ((hb.setOther ⟨s, 2, none⟩ (ptr s) hrs).setOther ⟨s, 3, none⟩ (ptr s) hrs).setCell 1 (ptr s)
    · have h := (ha.setP (b := s) (o := some s)).setN (b := s) (o := some s)
      exact fun c hc => (h c hc).setOther ⟨r, 1, none⟩ (ptr s) (by rw [List.nil_append, List.mem_singleton] at hc; rw [hc]; exact fun e => hrs e.symm)
    · exact (((Keeps.refl _ _).setCell _ _ (fun _ => .inr (by simp))).setCell _ _ (fun _ => .inr (by simp))).setCell _ _ (fun _ => .inl rfl)
  | cons x t =>
    obtain ⟨z, hz⟩ : ∃ z, (x :: t)[(x :: t).length - 1]? = some z := ⟨_, List.getElem?_eq_getElem (by simp)⟩
    have hxm : x ∈ x :: t := List.mem_cons_self
    have hzm := List.mem_of_getElem? hz
    have hx := hst x hxm
    have hzc := hst z hzm
    have ex : pf x = some z := (hr 0 x rfl).2.trans hz
    rw [ex] at hx
    have hrx : r ≠ x := ne_box hb hx
    have hrz : r ≠ z := ne_box hb hzc
    have sx : s ≠ x := fun e => hs (e ▸ hxm)
    have sz : s ≠ z := fun e => hs (e ▸ hzm)
    refine (join_some hb hc hx hzc hrs hrz sx sz).mono ?_
    rintro e w' ⟨rfl, rfl⟩
    have h := (((ha.setP (b := s) (o := some z)).setN (b := s) (o := some x)).setN (b := z) (o := some s)).setP (b := x) (o := some s)
    rw [upd_upd, upd_upd] at h
    refine ⟨rfl, _, _, ?_, h, Rg.join hn hs rfl hz hr, ?_⟩
    · exact (((hb.setOther ⟨s, 2, none⟩ (ptr z) hrs).setOther ⟨s, 3, none⟩ (ptr x) hrs).setOther ⟨z, 3, none⟩ (ptr s) hrz).setOther ⟨x, 2, none⟩ (ptr s) hrx
    · have m1 : ∀ c ∈ x :: t, c ∈ x :: t ++ [s] := fun c hc => List.mem_append_left _ hc
      exact ((((Keeps.refl _ _).setCell _ _ (fun _ => .inr (by simp))).setCell _ _ (fun _ => .inr (by simp))).setCell _ _ (fun _ => .inr (m1 _ hzm))).setCell _ _ (fun _ => .inr (m1 _ hxm))

theorem not_fresh (h : RbI w r mb l kf pf nf) {g : Nat} (hg : w.heap.size ≤ g) : g ∉ l := fun hm => by have := (h.seats g hm).lt; omega
theorem map_ne (h : MapB w mb n F) (hc : Cells w b e xs) : mb ≠ b := by
  rintro rfl
  obtain ⟨es, c, h1⟩ := h.isMap
  rw [hc] at h1
  cases h1
theorem add_old (h : RbI w r mb l kf pf nf) (hk : Ky k) (hm : fk l kf k = some b) : Calls Tryd.prog 8 #[ptr r, kv k] w fun e w' => e = .returned (.bool false) ∧ Keeps Nowhere w w' := by
  obtain ⟨w1, hw1⟩ : ∃ w1, w1 = w.alloc (.cells #[kt k, kn k] 28) := ⟨_, rfl⟩
  obtain ⟨g, hg⟩ : ∃ g, g = w.heap.size := ⟨_, rfl⟩
  have k1 : Keeps Nowhere w w1 := by rw [hw1]; exact (Keeps.refl _ _).alloc _
  have hc : Cells w1 g 28 [kt k, kn k] := by rw [hw1, hg]; exact Cells.new w _ _
  have d0 : w1.cell? ⟨g, 0, none⟩ = some (kt k) := hc.cell 0
  have d1 : w1.cell? ⟨g, 1, none⟩ = some (kn k) := hc.cell 1
  have hf := find_ (h.later k1 (fun x => x) (fun x => x) (fun _ _ x => x)) hk
  rw [hm] at hf
  simp only [vF] at hf
  have HF := Aside.mk hf
  have K1 := Aside.mk k1
  clear h hc k1 hf
  go_enter Tryd.func8, Tryd.ntmps8
  go_upto_region 1 with fail
  rw [← hg, ← hw1]
  clear hg hw1
  go_upto_region 2 with (first | (go_at_call 24; refine HF.it.mono ?_; clear HF; rintro e w2 ⟨rfl, k2⟩; have K2 := Aside.mk k2; clear k2) | fail)
  go_wp2
  go_ret
  exact ⟨rfl, K1.it.trans K2.it⟩
theorem add_new (h : RbI w r mb l kf pf nf) (hk : Ky k) (hm : fk l kf k = none) (hl : l.length < maxLen) : Calls Tryd.prog 8 #[ptr r, kv k] w fun e w' => e = .returned (.bool true) ∧ ∃ s pf' nf', w.heap.size ≤ s ∧ Aside (RbI w' r mb (l ++ [s]) (upd kf s k) pf' nf') ∧ Aside (Keeps (fun c => c = r ∨ c = mb ∨ c ∈ l) w w') := by
  obtain ⟨w1, hw1⟩ : ∃ w1, w1 = w.alloc (.cells #[kt k, kn k] 28) := ⟨_, rfl⟩
  obtain ⟨g, hg⟩ : ∃ g, g = w.heap.size := ⟨_, rfl⟩
  have k1 : Keeps Nowhere w w1 := by rw [hw1]; exact (Keeps.refl _ _).alloc _
  have hc : Cells w1 g 28 [kt k, kn k] := by rw [hw1, hg]; exact Cells.new w _ _
  have d0 : w1.cell? ⟨g, 0, none⟩ = some (kt k) := hc.cell 0
  have d1 : w1.cell? ⟨g, 1, none⟩ = some (kn k) := hc.cell 1
  have hf := find_ (h.later k1 (fun x => x) (fun x => x) (fun _ _ x => x)) hk
  rw [hm] at hf
  simp only [vF] at hf
  have HF := Aside.mk hf
  have K1 := Aside.mk k1
  have H0 := Aside.mk h
  have HC := Aside.mk hc
  clear h hc k1 hf
  go_enter Tryd.func8, Tryd.ntmps8
  go_upto_region 1 with fail
  rw [← hg, ← hw1]
  clear hg hw1
  go_upto_region 4 with (first | (go_at_call 24; refine HF.it.mono ?_; clear HF; rintro e w2 ⟨rfl, k2⟩; have K2 := Aside.mk k2; clear k2) | fail)
  clear d0 d1
  obtain ⟨s, hs⟩ : ∃ s, s = w2.heap.size := ⟨_, rfl⟩
  obtain ⟨w3, hw3⟩ : ∃ w3, w3 = w2.alloc (.cells #[kt k, kn k, .pointer none, .pointer none] 60) := ⟨_, rfl⟩
  have k02 : Keeps Nowhere w w2 := K1.it.trans K2.it
  have k3 : Keeps Nowhere w2 w3 := by rw [hw3]; exact (Keeps.refl _ _).alloc _
  have hc2 := HC.it.later K2.it (fun x => x)
  have b0 : w2.cell? ⟨g, 0, none⟩ = some (kt k) := hc2.cell 0
  have b1 : w2.cell? ⟨g, 1, none⟩ = some (kn k) := hc2.cell 1
  have hc3 := hc2.later k3 (fun x => x)
  have d0 : w3.cell? ⟨g, 0, none⟩ = some (kt k) := hc3.cell 0
  have d1 : w3.cell? ⟨g, 1, none⟩ = some (kn k) := hc3.cell 1
  have hcs : Cells w3 s 60 [kt k, kn k, .pointer none, .pointer none] := by rw [hw3, hs]; exact Cells.new w2 _ _
  have k3d : Keeps Nowhere w3 w3.drew := (Keeps.refl _ _).drew
  have h3 := H0.it.later (k02.trans k3) (fun x => x) (fun x => x) (fun _ _ x => x)
  have h1 := h3.later k3d (fun x => x) (fun x => x) (fun _ _ x => x)
  have c0 : w3.cell? ⟨r, 0, none⟩ = some (.map (some mb)) := h3.box.cell 0
  obtain ⟨w4, hst, hm2, k4⟩ := h1.map.store hl hk hm s
  have nr : r ≠ mb := fun e => map_ne h1.map h1.box e.symm
  have nm : ∀ b, ∀ xs, Cells w3.drew b 60 xs → b ≠ mb := fun b xs hb e => map_ne h1.map hb e.symm
  have hss : w.heap.size ≤ s := by rw [hs]; exact k02.size
  have hsl : s ∉ l := not_fresh H0.it hss
  have j := join_ (h1.box.later k4 nr) (fun b hb => (h1.seats b hb).later k4 (nm b _ (h1.seats b hb))) h1.nodup h1.ring hsl ((hcs.later k3d (fun x => x)).later k4 (nm s _ (hcs.later k3d (fun x => x))))
  rw [← fk_snoc hsl hm] at hm2
  have H := Aside.mk (And.intro hm2 (And.intro (k02.trans (k3.trans k3d)) k4))
  have N := Aside.mk (And.intro nr (And.intro hsl (And.intro (nm s _ (hcs.later k3d (fun x => x))) hss)))
  have NB := Aside.mk (fun b hb => nm b _ (h1.seats b hb))
  have JJ := Aside.mk j
  clear hm2 k02 k3 k3d k4 nm nr hsl h1 h3 hc2 hc3 hcs j hss K1 K2 HC
  go_upto_region 5 with fail
  rw [← hs, ← hw3]
  clear hs hw3 b0 b1
  go_region
  go_upto_region 7 with (first | (go_at_call 25; refine JJ.it.mono ?_; clear JJ; rintro e w5 ⟨rfl, pf', nf', hb, hst, hr, hk⟩; have J := Aside.mk (And.intro hb (And.intro hst (And.intro hr hk))); clear hb hst hr hk) | fail)
  go_wp2
  go_ret
  obtain ⟨hm2, k1, k2⟩ := H.it
  have h := H0.it
  obtain ⟨nr, hsl, ns, hss⟩ := N.it
  obtain ⟨hb, hst, hr, k3⟩ := J.it
  have nw : ∀ c ∈ l ++ [s], c ≠ mb := by
    intro c hc
    rcases List.mem_append.1 hc with hc | hc
    · exact NB.it c hc
    · rw [List.mem_singleton.1 hc]; exact ns
  refine ⟨rfl, s, pf', nf', hss, ⟨hb, ?_, hst, ?_, ?_, ?_, hr⟩, ⟨?_⟩⟩
  · rw [List.length_append]
    refine hm2.later k3 ?_
    rintro (e | e)
    · exact nr e.symm
    · exact nw mb e rfl
  · exact List.nodup_append.2 ⟨h.nodup, by simp, fun a ha b hb => by rw [List.mem_singleton.1 hb]; exact fun e => hsl (e ▸ ha)⟩
  · intro b hb c hc e
    have key : ∀ b ∈ l, kf b ≠ k := fun b hb e => fk_none hm (List.mem_map.2 ⟨b, hb, e⟩)
    rcases List.mem_append.1 hb with hb | hb <;> rcases List.mem_append.1 hc with hc | hc
    · rw [upd_other (b := s) _ _ (fun e => hsl (e ▸ hb)), upd_other (b := s) _ _ (fun e => hsl (e ▸ hc))] at e
      exact h.keys b hb c hc e
    · rw [List.mem_singleton.1 hc, upd_same, upd_other (b := s) _ _ (fun e => hsl (e ▸ hb))] at e
      exact absurd e (key b hb)
    · rw [List.mem_singleton.1 hb, upd_same, upd_other (b := s) _ _ (fun e => hsl (e ▸ hc))] at e
      exact absurd e.symm (key c hc)
    · rw [List.mem_singleton.1 hb, List.mem_singleton.1 hc]
  · intro b hb
    rcases List.mem_append.1 hb with hb | hb
    · rw [upd_other (b := s) _ _ (fun e => hsl (e ▸ hb))]; exact h.ky b hb
    · rw [List.mem_singleton.1 hb, upd_same]; exact hk
  · refine ((k1.any.next k2 (fun c e _ => .inr (.inl e))).next k3 ?_)
    rintro c (e | e) hlt
    · exact .inl e
    · rcases List.mem_append.1 e with e | e
      · exact .inr (.inr e)
      · rw [List.mem_singleton.1 e] at hlt; omega
end Go.Proofs.YtekokdfajbajoaaDoor.Rbkey
