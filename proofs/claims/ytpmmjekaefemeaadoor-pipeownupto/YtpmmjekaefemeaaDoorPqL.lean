/-
  culvertlaw19.PipeOwn's last world: behind apart
-/
import Derived.Test.YtpmmjekaefemeaaDoorPqK
import Derived.Test.YtpmmjekaefemeaaDoorApB
namespace Go.Proofs.YtpmmjekaefemeaaDoor
open Go.RowKit

section
variable {A : Nat → Addr} {own own' : Nat → Nat} {w w' w0 W : World} {lv mv : Value} {vs us : List Value} {Ls : List (List Int)} {L Lq : List Int} {ps qs : Nat} {p q wb xb : Nat} {I : Nat → Prop} {d y : Dp} {cp cq : Bool} {X : List (Value × List Int)}

/-- the pipes, the documents' and their boxes, what was moved out (30) -/
structure Pe (A : Nat → Addr) (w0 : World) (own : Nat → Nat) (W : World) (p : Nat) (L : List Int) (ps : Nat) (cp : Bool) (d : Dp) (wb q : Nat) (Lq : List Int) (qs : Nat) (cq : Bool) (y : Dp) (xb : Nat) (X : List (Value × List Int)) : Prop where
  g : OnG A w0 own W
  tp : PpO own 10 W p L ps cp
  dr : RdO own 14 W d.v d.ALL
  tq : PpO own 20 W q Lq qs cq
  dq : RdO own 24 W y.v y.ALL
  cw : CellsO own 8 W wb 28 d.cells
  cx : CellsO own 8 W xb 28 y.cells
  r : ∀ z ∈ X, RdO own 30 W z.1 z.2
  gd : d.G ≤ d.ALL.length
  gy : y.G ≤ y.ALL.length
theorem Pe.sn (h : Pe A w0 own W p L ps cp d wb q Lq qs cq y xb X) (s : Sn I own W own' w') (hI : ∀ k, k ≤ 30 → ¬ I k) : Pe A w0 own' w' p L ps cp d wb q Lq qs cq y xb X :=
  ⟨h.g.sn s (hI 0 (by decide)), h.tp.sn s (hI _ (by decide)) (hI _ (by decide)) (hI _ (by decide)), h.dr.sn s (hI _ (by decide)), h.tq.sn s (hI _ (by decide)) (hI _ (by decide)) (hI _ (by decide)), h.dq.sn s (hI _ (by decide)), h.cw.sn s (hI _ (by decide)), h.cx.sn s (hI _ (by decide)), fun z hz => (h.r z hz).sn s (hI _ (by decide)), h.gd, h.gy⟩
theorem Pe.quiet (h : Pe A w0 own W p L ps cp d wb q Lq qs cq y xb X) (hk : Keeps Nowhere W w') : Pe A w0 own w' p L ps cp d wb q Lq qs cq y xb X := h.sn (I := fun _ => False) (Sn.same hk) (fun _ _ x => x)
theorem Pe.new {v : Value} {l : List Int} (h : Pe A w0 own W p L ps cp d wb q Lq qs cq y xb X) (hn : Nw W w' v l) : Pe A w0 (give own W.heap.size 30) w' p L ps cp d wb q Lq qs cq y xb ((v, l) :: X) := by
  have h' := h.sn (I := fun _ => False) (Sn.quiet hn.k 30) (fun _ _ x => x)
  refine ⟨h'.g, h'.tp, h'.dr, h'.tq, h'.dq, h'.cw, h'.cx, fun z hz => ?_, h'.gd, h'.gy⟩
  rcases List.mem_cons.1 hz with rfl | hz
  · exact (hn.rowB own 30).rdO
  · exact h'.r z hz
theorem Pe.cells (h : Aside (Pe A w0 own W p L ps cp d wb q Lq qs cq y xb X)) : W.cell? ⟨wb, 0, none⟩ = some d.v ∧ W.cell? ⟨wb, 1, none⟩ = some (.int .i64 d.G) ∧ W.cell? ⟨wb, 2, none⟩ = some (.bool d.cut) ∧ W.cell? ⟨xb, 0, none⟩ = some y.v ∧ W.cell? ⟨xb, 1, none⟩ = some (.int .i64 y.G) ∧ W.cell? ⟨xb, 2, none⟩ = some (.bool y.cut) :=
  ⟨by rw [h.it.cw.1.cell]; rfl, by rw [h.it.cw.1.cell]; rfl, by rw [h.it.cw.1.cell]; rfl, by rw [h.it.cx.1.cell]; rfl, by rw [h.it.cx.1.cell]; rfl, by rw [h.it.cx.1.cell]; rfl⟩
theorem pe_apart (h : Aside (Pj A w0 own W p L ps cp d d wb q y y xb lv vs mv us Ls Ls [])) (hn : Ls.length ≤ 1048576) (hl : ∀ k, (Ls.getD k []).length ≤ 1099511627776) (hg : d.G ≤ d.ALL.length) :
    Calls Tryd.prog 22 #[lv] W fun e w' => e = .returned (.bool true) ∧ ∃ own', Aside (Pe A w0 own' w' p L ps cp d wb q (und y.ALL y.G y.cut) y.G y.cut y xb []) := by
  refine (apart_any (fun k => Ls.getD k []) h.it.l.lo h.it.l.xs (by rw [h.it.l.n1]; exact hn) (fun k _ => hl k)).mono ?_
  rintro e w' ⟨rfl, own', s⟩
  have e0 : Pe A w0 own W p L ps cp d wb q (und y.ALL y.G y.cut) y.G y.cut y xb [] := ⟨h.it.g, h.it.tp, h.it.dr, h.it.tq.t, h.it.tq.d, h.it.cw, h.it.cx, fun z hz => (by cases hz), hg, h.it.tq.g⟩
  exact ⟨rfl, own', ⟨e0.sn s.it (fun k hk => by show ¬ (_ ∨ _); omega)⟩⟩
theorem pe_moveP (h : Aside (Pe A w0 own W p L ps cp d wb q Lq qs cq y xb X)) (hL : L.length ≤ 2199023255551) :
    Calls Tryd.prog 14 #[ptr p, .int .i64 1073741824] W fun e w' => ∃ a l c own' L' ps', e = .returned (.slice a l c) ∧ Aside (Pe A w0 own' w' p L' ps' cp d wb q Lq qs cq y xb ((.slice a l c, L.take 1073741824) :: X)) := by
  refine (move19 h.it.tp 1073741824 hL 30).mono ?_
  rintro e w' ⟨a, l, c, own', rfl, X7⟩
  obtain ⟨x1, _, x3, x4⟩ := X7.it
  have hI : ∀ k, k < 10 ∨ 13 < k → ¬ I19 10 k := fun k hk => by show ¬ (_ ∨ _ ∨ _); omega
  refine ⟨a, l, c, own', _, _, rfl, ⟨h.it.g.sn x4 (hI _ (by decide)), x3, h.it.dr.sn x4 (hI _ (by decide)), h.it.tq.sn x4 (hI _ (by decide)) (hI _ (by decide)) (hI _ (by decide)), h.it.dq.sn x4 (hI _ (by decide)), h.it.cw.sn x4 (hI _ (by decide)), h.it.cx.sn x4 (hI _ (by decide)), fun z hz => ?_, h.it.gd, h.it.gy⟩⟩
  rcases List.mem_cons.1 hz with rfl | hz
  · exact x1.rdO
  · exact (h.it.r z hz).sn x4 (hI _ (by decide))
theorem pe_moveQ (h : Aside (Pe A w0 own W p L ps cp d wb q Lq qs cq y xb X)) (hL : Lq.length ≤ 2199023255551) :
    Calls Tryd.prog 14 #[ptr q, .int .i64 1073741824] W fun e w' => ∃ a l c own' L' ps', e = .returned (.slice a l c) ∧ Aside (Pe A w0 own' w' p L ps cp d wb q L' ps' cq y xb ((.slice a l c, Lq.take 1073741824) :: X)) := by
  refine (move19 h.it.tq 1073741824 hL 30).mono ?_
  rintro e w' ⟨a, l, c, own', rfl, X7⟩
  obtain ⟨x1, _, x3, x4⟩ := X7.it
  have hI : ∀ k, k < 20 ∨ 23 < k → ¬ I19 20 k := fun k hk => by show ¬ (_ ∨ _ ∨ _); omega
  refine ⟨a, l, c, own', _, _, rfl, ⟨h.it.g.sn x4 (hI _ (by decide)), h.it.tp.sn x4 (hI _ (by decide)) (hI _ (by decide)) (hI _ (by decide)), h.it.dr.sn x4 (hI _ (by decide)), x3, h.it.dq.sn x4 (hI _ (by decide)), h.it.cw.sn x4 (hI _ (by decide)), h.it.cx.sn x4 (hI _ (by decide)), fun z hz => ?_, h.it.gd, h.it.gy⟩⟩
  rcases List.mem_cons.1 hz with rfl | hz
  · exact x1.rdO
  · exact (h.it.r z hz).sn x4 (hI _ (by decide))
theorem pe_restW (h : Aside (Pe A w0 own W p L ps cp d wb q Lq qs cq y xb X)) (hm : d.ALL.length ≤ 2199023255551) :
    Calls Tryd.prog 23 #[dz d.v d.G d.cut] W fun e w' => ∃ a c l own', e = .returned (.slice a l c) ∧ Aside (Pe A w0 own' w' p L ps cp d wb q Lq qs cq y xb ((.slice a l c, (und d.ALL d.G d.cut).take 1073741824) :: X)) := by
  refine (rest19 d.v h.it.dr.1 h.it.gd hm d.cut).mono ?_
  rintro e w' ⟨a, c, l, rfl, X7⟩
  exact ⟨a, c, l, _, rfl, ⟨h.it.new X7.it⟩⟩
theorem pe_restX (h : Aside (Pe A w0 own W p L ps cp d wb q Lq qs cq y xb X)) (hm : y.ALL.length ≤ 2199023255551) :
    Calls Tryd.prog 23 #[dz y.v y.G y.cut] W fun e w' => ∃ a c l own', e = .returned (.slice a l c) ∧ Aside (Pe A w0 own' w' p L ps cp d wb q Lq qs cq y xb ((.slice a l c, (und y.ALL y.G y.cut).take 1073741824) :: X)) := by
  refine (rest19 y.v h.it.dq.1 h.it.gy hm y.cut).mono ?_
  rintro e w' ⟨a, c, l, rfl, X7⟩
  exact ⟨a, c, l, _, rfl, ⟨h.it.new X7.it⟩⟩
theorem pe_str1 {v : Value} {l : List Int} {S : ByteArray} (h : Aside (Pe A w0 own W p L ps cp d wb q Lq qs cq y xb ((v, l) :: X))) (hS : Aside (strOf l = S)) : (convert 26 9 v).run Tryd.prog W = .ok (.string S) W := str_run (h.it.r _ List.mem_cons_self).1 hS
theorem pe_str2 {v u : Value} {l m : List Int} {S : ByteArray} (h : Aside (Pe A w0 own W p L ps cp d wb q Lq qs cq y xb ((u, m) :: (v, l) :: X))) (hS : Aside (strOf l = S)) : (convert 26 9 v).run Tryd.prog W = .ok (.string S) W := str_run (h.it.r _ (List.mem_cons_of_mem _ List.mem_cons_self)).1 hS
end
end Go.Proofs.YtpmmjekaefemeaaDoor
