/-
  layer 10's laws: behind: the calls behind a reset, or a cut.
-/
import Derived.Test.YteghehhifebhcaaDoorSlB
namespace Go.Proofs.YteghehhifebhcaaDoor
open Go.RowKit

section
variable {own own' : Nat → Nat} {w w' w0 W W' : World} {p : Nat} {A : Nat → Addr} {d d' : Dm} {I : Nat → Prop}
/-- a stream of 1's above the ground -/
structure Bh (A : Nat → Addr) (w0 : World) (p : Nat) (d : Dm) (own : Nat → Nat) (W : World) : Prop where
  st : StmI own 1 W p d
  g : Gs A w0 own W
theorem Bh.step (h : Aside (Bh A w0 p d own W)) (x : Left5 own 1 W p d' W') : ∃ own', Aside (Bh A w0 p d' own' W') := by
  obtain ⟨own', st, s⟩ := x
  exact ⟨own', ⟨st, h.it.g.sn s (by unfold Five; omega)⟩⟩
theorem Bh.quiet (h : Aside (Bh A w0 p d own W)) (k : Keeps Nowhere W W') : Aside (Bh A w0 p d own W') := ⟨h.it.st.quiet k, h.it.g.quiet k⟩
/-- gone: every call leaves it as it is -/
structure Gone (d : Dm) (K : Int) : Prop where
  wr : d.wrE = K
  ac : d.accE = K
  cl : d.clD = d
  wd : ∀ xs, d.wrD xs = d
  ad : d.accD = d
  rd : d.ready = false
  ar : ∀ xs f, d.arD xs f = d
  ae : ∀ n, d.arE n = 0
  gr : ∀ n f, d.grD n f = d
  ge : ∀ n, d.grE n = 0
  v : d.vCredit = 0 ∧ d.vLeft = 0 ∧ d.vOwed = 0 ∧ d.staged = []
theorem gone_drop (d : Dm) : Gone d.dropD 26 := by
  refine ⟨rfl, rfl, rfl, fun _ => rfl, rfl, rfl, fun _ _ => rfl, fun _ => rfl, fun _ _ => rfl, fun _ => rfl, rfl, rfl, rfl, rfl⟩
theorem gone_cut (d : Dm) (h : d.drop = false) : Gone d.cutD 27 := by
  have e : d.cutD = { d with cut := true, staged := [] } := if_neg (by rw [h]; decide)
  rw [e]
  refine ⟨?_, ?_, ?_, fun _ => ?_, ?_, ?_, fun _ _ => ?_, fun _ => ?_, fun _ _ => ?_, fun _ => ?_, ?_, ?_, ?_, rfl⟩
  · simp [Dm.wrE, h]
  · simp [Dm.accE, h]
  · simp [Dm.clD]
  · simp [Dm.wrD]
  · simp [Dm.accD]
  · simp [Dm.ready, Dm.off]
  · simp [Dm.arD, Dm.deaf]
  · simp [Dm.arE, Dm.deaf]
  · simp [Dm.grD]
  · simp [Dm.grE, Dm.off]
  · simp [Dm.vCredit, Dm.off]
  · simp [Dm.vLeft, Dm.deaf]
  · simp [Dm.vOwed, Dm.deaf]
theorem bh_write {K : Int} (h : Aside (Bh A w0 p d own W)) (hg : Aside (Gone d K)) (src : Value) (xs : List Int) (hx : ReadsOff (fun k => Five 1 (own k)) W src (bv xs)) (hl : xs.length ≤ 9223372036854775807) : Calls Tryd.prog 17 #[ptr p, src] W fun e w' => ∃ v n own', e = .returned (.tuple #[.int .i64 n, v]) ∧ Hid (Coded A v K) ∧ Aside (Bh A w0 p d own' w') := by
  refine (write_at h.it.st h.it.g.st.s src xs hx hl).mono ?_
  rintro e w' ⟨v, rfl, hv, Y⟩
  rw [hg.it.wr] at hv
  rw [hg.it.wd xs] at Y
  obtain ⟨own', X⟩ := Bh.step h Y.it
  exact ⟨v, _, own', rfl, hv, X⟩
theorem bh_close {K : Int} (h : Aside (Bh A w0 p d own W)) (hg : Aside (Gone d K)) : Calls Tryd.prog 19 #[ptr p] W fun e w' => ∃ v own', e = .returned v ∧ Hid (Coded A v K) ∧ Aside (Bh A w0 p d own' w') := by
  refine (close_at h.it.st h.it.g.st.s).mono ?_
  rintro e w' ⟨v, rfl, hv, Y⟩
  rw [hg.it.wr] at hv
  rw [hg.it.cl] at Y
  obtain ⟨own', X⟩ := Bh.step h Y.it
  exact ⟨v, own', rfl, hv, X⟩
theorem bh_accept {K : Int} (h : Aside (Bh A w0 p d own W)) (hg : Aside (Gone d K)) : Calls Tryd.prog 11 #[ptr p] W fun e w' => ∃ v own', e = .returned v ∧ Hid (Coded A v K) ∧ Aside (Bh A w0 p d own' w') := by
  refine (accept_at h.it.st h.it.g.st).mono ?_
  rintro e w' ⟨v, rfl, hv, Y⟩
  rw [hg.it.ac] at hv
  rw [hg.it.ad] at Y
  obtain ⟨own', X⟩ := Bh.step h Y.it
  exact ⟨v, own', rfl, hv, X⟩
theorem bh_ready {K : Int} (h : Aside (Bh A w0 p d own W)) (hg : Aside (Gone d K)) : Calls Tryd.prog 45 #[ptr p] W fun e w' => e = .returned (.bool false) ∧ w' = W := by
  obtain ⟨ok, cu, u, sx, cx, ux, rx, H, _⟩ := h.it.st
  have := ready_at H ok h.it.g.st.tab
  rw [hg.it.rd] at this
  exact this
theorem bh_arrive {K : Int} (h : Aside (Bh A w0 p d own W)) (hg : Aside (Gone d K)) (sq : Option Addr) (n c : Nat) (xs : List Int) (hn : xs.length = n) (fin : Bool) (hx : ReadsOff (fun k => Five 1 (own k)) W (.slice sq n c) (bv xs)) : Calls Tryd.prog 25 #[ptr p, .slice sq n c, .bool fin] W fun e w' => ∃ own', e = .returned .nilIface ∧ Aside (Bh A w0 p d own' w') := by
  refine (arrive_at10 h.it.st h.it.g (Nat.le_refl 1) sq n c xs hn fin hx).mono ?_
  rintro e w' ⟨v, rfl, hv, Y⟩
  rw [hg.it.ae] at hv
  rw [hg.it.ar] at Y
  obtain ⟨own', X⟩ := Bh.step h Y.it
  exact ⟨own', by rw [Coded.zero hv], X⟩
theorem bh_grant {K : Int} (h : Aside (Bh A w0 p d own W)) (hg : Aside (Gone d K)) (n : Int) (h0 : 0 ≤ n) (fin : Bool) : Calls Tryd.prog 20 #[ptr p, .int .u32 n, .bool fin] W fun e w' => ∃ own', e = .returned .nilIface ∧ Aside (Bh A w0 p d own' w') := by
  refine (grant_at10 h.it.st h.it.g (Nat.le_refl 1) n h0 fin).mono ?_
  rintro e w' ⟨v, rfl, hv, Y⟩
  rw [hg.it.ge] at hv
  rw [hg.it.gr] at Y
  obtain ⟨own', X⟩ := Bh.step h Y.it
  exact ⟨own', by rw [Coded.zero hv], X⟩
theorem bh_view (h : Aside (Bh A w0 p d own W)) : Calls Tryd.prog 22 #[ptr p] W fun e w' => e = .returned (.agg #[.int .u32 d.id, .int .i64 d.state, .bool d.mine, .bool d.acc, .int .i64 d.staged.length, .int .u32 d.vCredit, .int .i64 d.vLeft, .int .i64 d.unread.length, .int .i64 d.vOwed, .bool d.closing, .bool d.told]) ∧ Aside (Bh A w0 p d own w') := by
  obtain ⟨_, cu, u, sx, cx, ux, rx, H, _⟩ := h.it.st
  refine (view_at H).mono ?_
  rintro e w' ⟨rfl, K⟩
  exact ⟨rfl, Bh.quiet h K.it⟩
theorem bh_code {v : Value} {K : Int} (h : Aside (Bh A w0 p d own W)) (hv : Hid (Coded A v K)) : Calls Tryd.prog 10 #[v] W fun e w' => e = .returned (.int .i64 K) ∧ w' = W := code_of (A := A) h.it.g.st.s hv.out
theorem bh_held (h : Aside (Bh A w0 p d own W)) : Calls Tryd.prog 39 #[ptr p] W fun e w' => e = .returned (.int .i64 d.held) ∧ ∃ m, w' = W.drewN m := by
  obtain ⟨ok, cu, u, sx, cx, ux, rx, H, _⟩ := h.it.st
  exact held_at H ok
theorem bh_done (h : Aside (Bh A w0 p d own W)) : Calls Tryd.prog 38 #[ptr p] W fun e w' => e = .returned (.bool d.done) ∧ w' = W := by
  obtain ⟨_, cu, u, sx, cx, ux, rx, H, _⟩ := h.it.st
  exact done_at H
theorem bh_cut (h : Aside (Bh A w0 p d own W)) : Calls Tryd.prog 57 #[ptr p] W fun e w' => ∃ own', e = .returned (.tuple #[]) ∧ Aside (Bh A w0 p d.cutD own' w') := by
  refine (cut_at h.it.st).mono ?_
  rintro e w' ⟨rfl, Y⟩
  obtain ⟨own', X⟩ := Bh.step h Y.it
  exact ⟨own', rfl, X⟩
theorem bh_reset (h : Aside (Bh A w0 p d own W)) : Calls Tryd.prog 58 #[ptr p] W fun e w' => ∃ own', e = .returned (.tuple #[]) ∧ Aside (Bh A w0 p d.dropD own' w') := by
  refine (reset_at h.it.st h.it.g.st).mono ?_
  rintro e w' ⟨rfl, Y⟩
  obtain ⟨own', X⟩ := Bh.step h Y.it
  exact ⟨own', rfl, X⟩
theorem bh_read (h : Aside (Bh A w0 p d own W)) (n : Int) : Calls Tryd.prog 24 #[ptr p, .int .i64 n] W fun e w' => ∃ sq m v own', e = .returned (.tuple #[.slice sq m m, .int .u32 (d.rdG n), v]) ∧ Hid (Coded A v (d.rdE n)) ∧ Aside (Bh A w0 p (d.rdD n) own' w') := by
  refine (read_at10 h.it.st h.it.g (Nat.le_refl 1) n 9 (by unfold Five; omega)).mono ?_
  rintro e w' ⟨sq, m, v, rfl, _, hv, Y⟩
  obtain ⟨own', a, _, s⟩ := Y.it
  obtain ⟨own', X⟩ := Bh.step h ⟨own', a, s⟩
  exact ⟨sq, m, v, own', rfl, hv, X⟩
end
end Go.Proofs.YteghehhifebhcaaDoor
