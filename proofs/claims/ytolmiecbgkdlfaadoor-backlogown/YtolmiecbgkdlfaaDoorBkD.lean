/-
  package backlog: Has
-/
import Derived.Test.YtolmiecbgkdlfaaDoorBkC
import Derived.RangeFuncBox
import Derived.Maps.AppendAt
namespace Go.Proofs.YtolmiecbgkdlfaaDoor
open Go.RowKit Go.Shelf Fuint32
attribute [local go_sem] Oper.semAt_some

variable {A : Nat → Addr} {w w' W w0 : World} {own own' : Nat → Nat} {i p fp most : Nat} {L L' : List Nat} {v v' : Value} {first : Nat} {gone : List Value} {I : Nat → Prop}

theorem keeps_grown' {S : Nat → Prop} {w W W' : World} {row : Option Nat} (h : Keeps S w W) (hg : W.grownBy W' row) (hr : ∀ r, row = some r → S r) : Keeps S w W' :=
  h.next (S' := fun k => row = some k) ⟨hg.os, hg.tape, hg.output, hg.size, fun k hk hn => hg.block k hk (fun e => hn e.symm)⟩ (fun k e _ => hr k e)
/-- what All answers of the queue -/
def Al (w : World) (fv : Option Addr) (L : List Nat) : Prop := ∀ W, Keeps Nowhere w W → Calls Tryd.prog 29 #[.pointer fv] W fun e w' => ∃ b, e = .returned (.func (.func 40) #[] #[.pointer (some ⟨b, 0, none⟩)]) ∧ Aside (WalkAt W.heap.size w' (.func (.func 40) #[] #[.pointer (some ⟨b, 0, none⟩)]) (qn L)) ∧ Aside (Keeps Nowhere W w')
theorem Al.nil (w : World) : Al w none [] := fun W _ => all_nil W
theorem Al.at (h : BkI w p fp most L v first gone) : Al w (some ⟨fp, 0, none⟩) L := fun W k => by
  have hl := h.q.things
  have ht := h.top
  rw [qn_len] at hl
  exact all_in (h.q.later k (fun _ _ x => x)) (by rw [qn_len]; simp only [by']; omega)

set_option maxRecDepth 8000 in
set_option maxHeartbeats 1000000 in
theorem bhas_of (x : Value) (fv : Option Addr) (id : Nat) (hL : L.length ≤ 1024) (PT : Pt w x fv) (AL : Al w fv L) :
    Calls Tryd.prog 11 #[x, .int .u32 (id : Nat)] w fun e w' => e = .returned (.bool (decide (id ∈ L))) ∧ Aside (Keeps Nowhere w w') := by
  obtain ⟨W0, hW0⟩ : ∃ W0, W0 = (w.alloc (.cells #[.int .u32 (id : Nat)] 34)).alloc (.cells #[.bool false] 4) := ⟨_, rfl⟩
  have K0 : Aside (Keeps Nowhere w W0) := ⟨by rw [hW0]; exact ((Keeps.refl _ _).alloc _).alloc _⟩
  have B0 : Aside (Cells W0 w.heap.size 34 [.int .u32 (id : Nat)]) := ⟨by rw [hW0]; exact (Cells.new w _ _).later (S := Nowhere) ((Keeps.refl _ _).alloc _) (fun x => x)⟩
  have N0 : Aside (Cells W0 (w.heap.size + 1) 4 [.bool false]) := ⟨by
    have h := Cells.new (w.alloc (.cells #[.int .u32 (id : Nat)] 34)) 4 [.bool false]
    rw [World.size_alloc] at h
    rw [hW0]; exact h⟩
  have QQ := Aside.mk (PT W0 K0.it)
  have AA := Aside.mk (fun W k => AL W (K0.it.trans k))
  have HL := Aside.mk hL
  have F0 := bk_f0 fv
  clear PT AL hL
  refine (callsIn_wide (n := 3)).1 ?_
  refine callsIn_of_wp_marks Tryd.func11 rfl trivial ?_ rfl
  simp only [Tryd.ntmps11, List.size_toArray, List.length_cons, List.length_nil, Nat.reduceAdd, Nat.reduceSub, Array.replicate_succ, Array.replicate_zero, List.push_toArray, List.append_toArray, List.nil_append, List.cons_append]
  gi_wp2_with fail
  rw [← hW0]
  clear hW0
  refine ⟨trivial, ?_⟩
  refine (callsIn_wide.2 QQ.it).mono ?_
  rintro e w1 ⟨rfl, K1⟩
  gi_wp2_with fail
  refine ⟨trivial, ?_⟩
  refine (callsIn_wide.2 (AA.it w1 K1.it)).mono ?_
  rintro e w5 ⟨b, rfl, W5, k5⟩
  have nn := walk_not_nil w5 b
  gi_wp2_with fail
  obtain ⟨B, hB, hBk⟩ := W5.it.kept 2 (by decide) (by have := HL.it; rw [qn_len]; omega)
  have E0 := Aside.mk ((B0.it.later K1.it (fun x => x)).later k5.it (fun x => x))
  have E1 := Aside.mk ((N0.it.later K1.it (fun x => x)).later k5.it (fun x => x))
  have KW5 := Aside.mk ((K0.it.trans K1.it).trans k5.it)
  have hlt := E1.it.lt
  have h0w : w.heap.size + 1 < w1.heap.size := (N0.it.later K1.it (fun x => x)).lt
  clear nn F0
  refine wpIn_rangeFunc_ownF rfl (by decide) (gf := 40) (lb := #[.pointer (some ⟨b, 0, none⟩)]) rfl trivial (enters_of Tryd.func40 (by kernel_rfl) rfl)
    hB kept_t (kept_b (fun k hk => (hBk k hk).2)) (Below.refl _ _) (fun _ => rfl)
    (fun pre W => Keeps Nowhere w5 W ∧ ∀ y ∈ pre, y.1 ≠ id)
    (fun c pre W => c = .ret ∧ Keeps (fun k => k = w.heap.size + 1) w5 W ∧ Cells W (w.heap.size + 1) 4 [.bool true] ∧ ∃ y ∈ pre, y.1 = id) ?hI ?hIx ⟨Keeps.refl _ _, fun y hy => by cases hy⟩ ?a1 ?assign ?body ?done ?stop
  case hI =>
    intro pre W W' row hs hg hr'
    exact ⟨keeps_grown hs.1 hg (fun r e => (hr' r e).1), hs.2⟩
  case hIx =>
    intro c pre W W' row hs hg hr'
    exact ⟨hs.1, keeps_grown hs.2.1 hg (fun r e => (hr' r e).1), hs.2.2.1.later (grown_keeps hg) (fun e => by have := (hr' _ e).1; omega), hs.2.2.2⟩
  case assign =>
    intro l x W K hK
    gi_wp2
    exact hK
  case body =>
    rintro l pre x W ⟨hk, hpre⟩ hlen
    have c0 : W.cell? ⟨w.heap.size, 0, none⟩ = some (.int .u32 (id : Nat)) := by rw [(E0.it.later hk (fun x => x)).cell]; rfl
    have hr := E1.it.later hk (fun x => x)
    have r0 : W.cell? ⟨w.heap.size + 1, 0, none⟩ = some (.bool false) := by rw [hr.cell]; rfl
    have rf := hr.frozen 0
    have HR := Aside.mk hr
    have HK := Aside.mk hk
    have HP := Aside.mk hpre
    clear hr hk hpre hlen hB
    by_cases hx : x.1 = id
    · have e1 : ((x.1 : Int) == id) = true := by simp [hx]
      have HX := Aside.mk hx
      clear hx
      gi_wp2
      exact ⟨KeepsOthers.setCell _ _ _, rfl, HK.it.any.setCell _ _ (fun _ => rfl), HR.it.setCell 0 (.bool true), x, by simp, HX.it⟩
    · have e1 : ((x.1 : Int) == id) = false := beq_eq_false_iff_ne.2 (fun e => hx (Int.ofNat_inj.1 e))
      have HX := Aside.mk hx
      clear hx
      gi_wp2
      refine ⟨⟨Nat.le_refl _, fun _ _ h _ => h⟩, fun _ _ => rfl, HK.it, fun y hy => ?_⟩
      rcases List.mem_append.1 hy with hy | hy
      · exact HP.it y hy
      · rw [List.mem_singleton.1 hy]; exact HX.it
  case done =>
    rintro D ys W hD rfl ⟨hk, hne⟩ hK
    have hr := E1.it.later hk (fun x => x)
    have r0 : W.cell? ⟨w.heap.size + 1, 0, none⟩ = some (.bool false) := by rw [hr.cell]; rfl
    have rf := hr.frozen 0
    have HK := Aside.mk hk
    have HD := Aside.mk hK
    have HN : Aside (decide (id ∈ L) = false) := ⟨decide_eq_false (fun h => hne (id, 0) (List.mem_map.2 ⟨id, h, rfl⟩) rfl)⟩
    have N5 := Aside.mk (And.intro hlt (And.intro h0w hD))
    clear hk hK hlt h0w hB hD hne hr
    gi_wp2
    have hK' := (KeepsOthers.setCell W ⟨w.heap.size + 1, 0, none⟩ (.bool false)).same D _ HD.it rfl
    refine ⟨by simp, .inl ⟨_, _, rfl, run_takeDeferred hK', ?_⟩⟩
    have hc5 := cell_kept (World.cell?_setCell_same' W ⟨w.heap.size + 1, 0, none⟩ (.bool false) (by rw [r0]; rfl)) (grownBy_putObj' _ D (.deferred none)) (fun r e => by cases e; exact ⟨_, hK', rfl⟩)
    refine ⟨.bool false, ?_, by rw [HN.it], ⟨?_⟩⟩
    · simp [results, Tryd.f11, go_sem, hc5]
    · have k1 : Keeps (fun k => k = w.heap.size + 1 ∨ k = D) w5 ((W.setCell ⟨w.heap.size + 1, 0, none⟩ (.bool false)).putObj D (.deferred none)) :=
        keeps_grown' (HK.it.any.setCell _ _ (fun _ => .inl rfl)) (grownBy_putObj' _ D (.deferred none)) (fun r e => by cases e; exact .inr rfl)
      exact KW5.it.next k1 (fun k e hlt' => by have := N5.it; have := KW5.it.size; omega)
  case stop =>
    rintro D c pre W hD hpre ⟨rfl, hk, hc, y, hy, hyid⟩ hK
    have r0 : W.cell? ⟨w.heap.size + 1, 0, none⟩ = some (.bool true) := by rw [hc.cell]; rfl
    have HK := Aside.mk hk
    have HD := Aside.mk hK
    have HN : Aside (decide (id ∈ L) = true) := ⟨decide_eq_true (by
      have := hpre.subset hy
      obtain ⟨z, hz, e⟩ := List.mem_map.1 this
      rw [← hyid, ← e]
      exact hz)⟩
    have N5 := Aside.mk (And.intro hlt (And.intro h0w hD))
    clear hk hK hlt h0w hB hD hc hy
    gi_wp2
    refine ⟨by simp, .inl ⟨_, _, rfl, run_takeDeferred HD.it, ?_⟩⟩
    have hc5 := cell_kept r0 (grownBy_putObj' W D (.deferred none)) (fun r e => by cases e; exact ⟨_, HD.it, rfl⟩)
    refine ⟨.bool true, ?_, by rw [HN.it], ⟨?_⟩⟩
    · simp [results, Tryd.f11, go_sem, hc5]
    · have k1 : Keeps (fun k => k = w.heap.size + 1 ∨ k = D) w5 (W.putObj D (.deferred none)) :=
        keeps_grown' (HK.it.mono (fun k e _ => .inl e)) (grownBy_putObj' _ D (.deferred none)) (fun r e => by cases e; exact .inr rfl)
      exact KW5.it.next k1 (fun k e hlt' => by have := N5.it; have := KW5.it.size; omega)
theorem bhas_nil (w : World) (id : Nat) : Calls Tryd.prog 11 #[.pointer none, .int .u32 (id : Nat)] w fun e w' => e = .returned (.bool false) ∧ Aside (Keeps Nowhere w w') := by
  have := bhas_of (L := []) _ none id (by simp) (Pt.nil w) (Al.nil w)
  simpa using this
theorem bhas (h : BkO own i w p most L) (id : Nat) : Calls Tryd.prog 11 #[ptr p, .int .u32 (id : Nat)] w fun e w' => e = .returned (.bool (decide (id ∈ L))) ∧ Aside (Keeps Nowhere w w') := by
  have hl := h.len
  obtain ⟨fp, v, f, g, h, _⟩ := h
  exact bhas_of _ _ id (by omega) (Pt.at h.box) (Al.at h)
end Go.Proofs.YtolmiecbgkdlfaaDoor
