/-
  package stream: the parts' calls in a stream's world.
-/
import Derived.Test.YteghehhifebhcaaDoorOStmE
namespace Go.Proofs.YteghehhifebhcaaDoor
open Go.RowKit

section
variable {own own' : Nat → Nat} {i : Nat} {w w' w0 : World} {p : Nat} {A : Nat → Addr} {u : Int} {d : Dm} {cu : Bool} {sx cx ux rx : Value} {I : Nat → Prop}
theorem rowO_sn {j : Nat} {e : TypeId} {v : Value} {xs : List Value} (h : RowO own j w e v xs) (s : Sn I own w own' w') (hi : ¬ I j) : RowO own' j w' e v xs := by
  refine ⟨h.1.later s.keeps (fun k hk e => hi (h.2 k hk ▸ e)), fun k hk => ?_⟩
  rcases h.1 with ⟨rfl, _⟩ | ⟨g, rfl, hc⟩
  · cases hk
  · obtain rfl : g = k := by simpa [Value.ownBlock] using hk
    exact (s.agree g hc.lt).trans (h.2 g hk)
theorem rowO_rd {j : Nat} {v : Value} {ns : List Int} (h : RowO own j w 5 v (bv ns)) : Rd w v ns := by
  refine ⟨h.reads, ?_⟩
  rcases h.1 with ⟨rfl, _⟩ | ⟨g, rfl, _⟩
  · intro l c e; cases e; rfl
  · intro l c e; cases e
theorem rowAt_shape {e : TypeId} {v : Value} {xs : List Value} (h : RowAt w e v xs) : ∃ q, v = .slice q xs.length xs.length := by
  rcases h with ⟨rfl, rfl⟩ | ⟨g, rfl, _⟩
  · exact ⟨_, rfl⟩
  · exact ⟨_, rfl⟩
theorem StmO.staged (h : StmO own i w p d cu u sx cx ux rx) (s : Sn (fun k => k = i + 1) own w own' w') {l : List Int} (hr : Rbyte.RingO own' (i + 1) w' sx (if d.off then 0 else d.stage) (bv l)) : StmO own' i w' p { d with staged := l } cu u sx cx ux rx :=
  ⟨h.box.sn s (by omega), h.pt.cutc, hr, h.pt.crd.sn s (by omega), ringO_sn h.pt.unr s (by omega), h.pt.wnd.sn s (by omega)⟩
theorem StmO.unread (h : StmO own i w p d cu u sx cx ux rx) (s : Sn (fun k => k = i + 3) own w own' w') {l : List Int} (hr : Rbyte.RingO own' (i + 3) w' ux (if d.drop then 0 else d.win) (bv l)) : StmO own' i w' p { d with unread := l } cu u sx cx ux rx :=
  ⟨h.box.sn s (by omega), h.pt.cutc, ringO_sn h.pt.stg s (by omega), h.pt.crd.sn s (by omega), hr, h.pt.wnd.sn s (by omega)⟩
theorem StmO.credit (h : StmO own i w p d cu u sx cx ux rx) (s : Sn (fun k => k = i + 2) own w own' w') {c : Int} (hr : SendV own' (i + 2) w' cx d.off d.win c) : StmO own' i w' p { d with credit := c } cu u sx cx ux rx :=
  ⟨h.box.sn s (by omega), h.pt.cutc, ringO_sn h.pt.stg s (by omega), hr, ringO_sn h.pt.unr s (by omega), h.pt.wnd.sn s (by omega)⟩
theorem StmO.window (h : StmO own i w p d cu u sx cx ux rx) (s : Sn (fun k => k = i + 4) own w own' w') {l u' o : Int} (hr : RcvV own' (i + 4) w' rx d.deaf d.win l u' o) : StmO own' i w' p { d with left := l, owed := o } cu u' sx cx ux rx :=
  ⟨h.box.sn s (by omega), h.pt.cutc, ringO_sn h.pt.stg s (by omega), h.pt.crd.sn s (by omega), ringO_sn h.pt.unr s (by omega), hr⟩
theorem push_st (h : StmO own i w p d cu u sx cx ux rx) (ho : d.off = false) (src : Value) (xs : List Int) (hx : ReadsOff (fun k => own k = i + 1) w src (bv xs)) (hl : xs.length ≤ 9223372036854775807) :
    Calls Tryd.prog 41 #[sx, src] w fun e w' => ∃ own', e = .returned (.int .i64 (min xs.length (d.stage - d.staged.length) : Nat)) ∧
      Aside (StmO own' i w' p { d with staged := d.staged ++ xs.take (d.stage - d.staged.length) } cu u sx cx ux rx ∧ Sn (fun k => k = i + 1) own w own' w') := by
  have hr := h.pt.stg
  rw [ho, if_neg (by decide)] at hr
  have K := Rbyte.pushV hr src (bv xs) hx (by rw [bv_length]; omega) (bv_one xs)
  rw [bv_length, bv_length] at K
  refine K.mono ?_
  rintro e w' ⟨rfl, hR, hk⟩
  have s := Sn.by hk (i + 1)
  refine ⟨_, rfl, ⟨h.staged s ?_, s⟩⟩
  rw [ho, if_neg (by decide), bv_append, bv_take]
  exact Rbyte.RingO.mine0 hR
theorem push_un (h : StmO own i w p d cu u sx cx ux rx) (ho : d.drop = false) (src : Value) (xs : List Int) (hx : ReadsOff (fun k => own k = i + 3) w src (bv xs)) (hl : xs.length ≤ 9223372036854775807) (hf : d.unread.length + xs.length ≤ d.win) :
    Calls Tryd.prog 41 #[ux, src] w fun e w' => ∃ own' n, e = .returned (.int .i64 n) ∧
      Aside (StmO own' i w' p { d with unread := d.unread ++ xs } cu u sx cx ux rx ∧ Sn (fun k => k = i + 3) own w own' w') := by
  have hr := h.pt.unr
  rw [ho, if_neg (by decide)] at hr
  have K := Rbyte.pushV hr src (bv xs) hx (by rw [bv_length]; omega) (bv_one xs)
  rw [bv_length, bv_length] at K
  refine K.mono ?_
  rintro e w' ⟨rfl, hR, hk⟩
  have s := Sn.by hk (i + 3)
  refine ⟨_, _, rfl, ⟨h.unread s ?_, s⟩⟩
  rw [ho, if_neg (by decide), bv_append]
  rw [List.take_of_length_le (by rw [bv_length]; omega)] at hR
  exact Rbyte.RingO.mine0 hR
theorem pop_ring {j r cap : Nat} {x : Value} {items : List Int} (h : Rbyte.RingO own j w x cap (bv items)) (n : Int) :
    Calls Tryd.prog 48 #[x, .int .i64 n] w fun e w' => ∃ sq own', e = .returned (.slice sq (min n.toNat items.length) (min n.toNat items.length)) ∧
      Aside (RowO own' r w' 5 (.slice sq (min n.toNat items.length) (min n.toNat items.length)) (bv (items.take n.toNat)) ∧ Rbyte.RingO own' j w' x cap (bv (items.drop n.toNat)) ∧ Sn (fun k => k = j) own w own' w') := by
  refine (Rbyte.popV h n).mono ?_
  rintro e w' ⟨s, z, rfl, hR, hz, _, hn, hring, hk⟩
  have sn : Sn (fun k => k = j) own w (give (give own w.heap.size r) z j) w' := ⟨fun k hk' => by rw [give_old (Nat.lt_of_lt_of_le hk' hz), give_old hk'], hk⟩
  have hR' : RowAt w' 5 s (bv (items.take n.toNat)) := by rw [bv_take]; exact hR
  obtain ⟨sq, hq⟩ := rowAt_shape hR'
  rw [bv_length, List.length_take] at hq
  subst hq
  refine ⟨sq, _, rfl, ⟨⟨hR', fun k hk' => ?_⟩, ?_, sn⟩⟩
  · obtain ⟨a, b⟩ := hn k hk'
    rw [give_old b, give_new a]
  · rw [bv_drop]
    exact Rbyte.RingO.mine hring r hz
theorem arrive_wn (h : StmO own i w p d cu u sx cx ux rx) (ho : d.deaf = false) (n : Int) (h0 : 0 ≤ n) (hs : SentO A w) :
    Calls Tryd.prog 56 #[rx, .int .i64 n] w fun e w' => ∃ v, e = .returned v ∧ Hid (Coded A v (if d.left < n then 16 else 0)) ∧
      Aside (StmO own i w' p (if d.left < n then d else { d with left := d.left - n }) cu (if d.left < n then u else u + n) sx cx ux rx ∧ Sn (fun k => k = i + 4) own w own w') := by
  rcases h.pt.wnd with ⟨e, _⟩ | ⟨_, q, rfl, hr⟩
  · rw [e] at ho; cases ho
  refine (arrive_any hr n hs.s8).mono ?_
  rintro e w' ⟨v, rfl, hv, X⟩
  have n0 : ¬ n < 0 := by omega
  unfold arE at hv
  unfold arL arU at X
  simp only [if_neg n0] at hv X
  refine ⟨v, rfl, hv, ?_⟩
  have H := h.window X.it.2 (.inr ⟨ho, q, rfl, X.it.1⟩)
  refine ⟨?_, X.it.2⟩
  by_cases hc : d.left < n
  · rw [if_pos hc, if_pos hc] at H
    rw [if_pos hc, if_pos hc]
    exact H
  · rw [if_neg hc, if_neg hc] at H
    rw [if_neg hc, if_neg hc]
    exact H
theorem read_wn (h : StmO own i w p d cu u sx cx ux rx) (ho : d.deaf = false) (n : Int) (h0 : 0 ≤ n) (h1 : n ≤ u) (hs : SentO A w) :
    Calls Tryd.prog 76 #[rx, .int .i64 n] w fun e w' => ∃ v, e = .returned (.tuple #[.int .u32 (if d.owed + n < ((d.win : Int) + 1) / 2 then 0 else d.owed + n), v]) ∧
      Aside (StmO own i w' p { d with left := d.left + (if d.owed + n < ((d.win : Int) + 1) / 2 then 0 else d.owed + n), owed := if d.owed + n < ((d.win : Int) + 1) / 2 then d.owed + n else 0 } cu (u - n) sx cx ux rx ∧ Sn (fun k => k = i + 4) own w own w') := by
  rcases h.pt.wnd with ⟨e, _⟩ | ⟨_, q, rfl, hr⟩
  · rw [e] at ho; cases ho
  refine (read_any hr n hs.s8).mono ?_
  rintro e w' ⟨v, rfl, hv, X⟩
  have n0 : ¬ n < 0 := by omega
  have n1 : ¬ u < n := by omega
  unfold rdG rdU rdO at X
  simp only [if_neg n0, if_neg n1] at X
  refine ⟨v, ?_, ⟨h.window X.it.2 (.inr ⟨ho, q, rfl, X.it.1⟩), X.it.2⟩⟩
  unfold rdG
  rw [if_neg n0, if_neg n1]
theorem spend_cr (h : StmO own i w p d cu u sx cx ux rx) (ho : d.off = false) (n : Int) (h0 : 0 ≤ n) (h1 : n ≤ d.credit) (hs : SentO A w) :
    Calls Tryd.prog 49 #[cx, .int .i64 n] w fun e w' => ∃ v own', e = .returned v ∧
      Aside (StmO own' i w' p { d with credit := d.credit - n } cu u sx cx ux rx ∧ Sn (fun k => k = i + 2) own w own' w') := by
  rcases h.pt.crd with ⟨e, _⟩ | ⟨_, q, s, rfl, hr⟩
  · rw [e] at ho; cases ho
  refine (spend_any hr n hs).mono ?_
  rintro e w' ⟨v, own', rfl, hv, X⟩
  unfold spC at X
  simp only [if_neg (show ¬ n < 0 by omega), if_neg (show ¬ d.credit < n by omega)] at X
  exact ⟨v, own', rfl, ⟨h.credit X.it.2 (.inr ⟨ho, q, _, rfl, X.it.1⟩), X.it.2⟩⟩
end
end Go.Proofs.YteghehhifebhcaaDoor
