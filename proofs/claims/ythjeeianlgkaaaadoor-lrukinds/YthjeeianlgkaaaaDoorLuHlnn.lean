/-
  package lru (lnn): every call, by owners
-/
import Derived.Test.YthjeeianlgkaaaaDoorLuFlnn
import Derived.Test.YthjeeianlgkaaaaDoorLuGlnn
import Derived.Test.YthjeeianlgkaaaaDoorSn
import Derived.Test.YthjeeianlgkaaaaDoorCodedZ
namespace Go.Proofs.YthjeeianlgkaaaaDoor.Lulnn
open Go.RowKit

variable {w w' w0 : World} {own own' : Nat → Nat} {i c mb eb s b p q j o : Nat} {l : List Nat} {f : Nat → Rx} {pf nf : Nat → Option Nat} {room k now W : Int} {L M : List Rx} {I : Nat → Prop} {A : Nat → Addr} {x : Rx}

/-- what a Put lets go, in the order in which it goes -/
def goneX (room : Int) (L : List Rx) (x : Rx) : List Rx := ((dropL L x.k).drop (fit (room - x.w) (dropL L x.k))).reverse
def gvV (L : List Rx) (k now : Int) : Value := match findL L k with
  | none => (.int .i64 0)
  | some x => if now < x.u then tv x.t else (.int .i64 0)
def pvV (L : List Rx) (k : Int) : Value := match findL L k with
  | none => (.int .i64 0)
  | some x => tv x.t
def puI (L : List Rx) (k : Int) : Int := match findL L k with
  | none => 0
  | some x => x.u
theorem CaI.by (h1 : own c = i) (h2 : own mb = i) (h3 : ∀ b ∈ eb :: l, own b = i) (hk : Keeps (Mine c mb eb l) w w') : Keeps (fun k => own k = i) w w' := hk.mono (fun x e _ => by
  rcases e with e | e | e
  · rw [e]; exact h1
  · rw [e]; exact h2
  · exact h3 x e)
/-- new blocks are j's, but for one, which is i's -/
def give2 (own : Nat → Nat) (n s i o : Nat) : Nat → Nat := fun b => if b < n then own b else if b = s then i else o
theorem give2_old {n s i o b : Nat} (h : b < n) : give2 own n s i o b = own b := if_pos h
theorem give2_one {n s i o : Nat} (h : n ≤ s) : give2 own n s i o s = i := by unfold give2; rw [if_neg (by omega), if_pos rfl]
theorem give2_new {n s i o b : Nat} (h : n ≤ b) (hb : b ≠ s) : give2 own n s i o b = o := by unfold give2; rw [if_neg (by omega), if_neg hb]

theorem new_neg (hs : Sents 144 codeVars A w) (hr : room < 0) : Calls Tryd.prog 6 #[.int .i64 room] w fun e w' => e = .returned (.tuple #[.pointer none, .iface 144 (.pointer (some (A 1)))]) ∧ Aside (Keeps Nowhere w w') :=
  new_bad hr (hs.cell 1 0 rfl)
theorem new_pos (own : Nat → Nat) (i : Nat) (w : World) (h0 : 0 ≤ room) (hr : room ≤ 9223372036854775807) : Calls Tryd.prog 6 #[.int .i64 room] w fun e w' => ∃ c, e = .returned (.tuple #[ptr c, .nilIface]) ∧ Aside (CaO (give own w.heap.size i) i w' c room []) ∧ Aside (Keeps Nowhere w w') := by
  refine (new_ w h0 hr).mono ?_
  rintro e w' ⟨c, mb, eb, rfl, h1, h2, h3, h4, h5⟩
  exact ⟨c, rfl, ⟨mb, eb, [], _, _, _, h5, give_new h1, give_new h2, fun b hb => by rw [List.mem_singleton.1 hb]; exact give_new h3, rfl⟩, ⟨h4⟩⟩
theorem put_neg (hs : Sents 144 codeVars A w) (c : Nat) (k : Int) (tvv : Value) (U : Int) (hW : W < 0) : Calls Tryd.prog 21 #[ptr c, kv k, tvv, .int .i64 W, .int .i64 U] w fun e w' => e = .returned (.tuple #[.slice none 0 0, .iface 144 (.pointer (some (A 1)))]) ∧ w' = w :=
  put_err tvv U (refuses_neg k c w W hW (hs.cell 1 0 rfl)) ⟨_, _, rfl⟩
theorem put_full (hs : Sents 144 codeVars A w) (h : CaO own i w c room L) (k : Int) (tvv : Value) (U : Int) (hW : 0 ≤ W) (hr : room < W) : Calls Tryd.prog 21 #[ptr c, kv k, tvv, .int .i64 W, .int .i64 U] w fun e w' => e = .returned (.tuple #[.slice none 0 0, .iface 144 (.pointer (some (A 5)))]) ∧ w' = w := by
  obtain ⟨mb, eb, l, f, pf, nf, h, _⟩ := h
  exact put_err tvv U (refuses_full h k hW hr (hs.cell 5 5 rfl)) ⟨_, _, rfl⟩
theorem put_nilv (hs : Sents 144 codeVars A w) (k : Int) (tvv : Value) (W U : Int) : Calls Tryd.prog 21 #[.pointer none, kv k, tvv, .int .i64 W, .int .i64 U] w fun e w' => e = .returned (.tuple #[.slice none 0 0, .iface 144 (.pointer (some (A 0)))]) ∧ w' = w :=
  put_err tvv U (refuses_nil k w W (hs.cell 0 1 rfl)) ⟨_, _, rfl⟩
theorem put_o (h : CaO own i w c room L) (hx : x.Ok) (hr : x.w ≤ room) (hmax : L.length * 8 ≤ 140737488355328) (o : Nat) :
    Calls Tryd.prog 21 #[ptr c, kv x.k, tv x.t, .int .i64 x.w, .int .i64 x.u] w fun e w' => ∃ v own', e = .returned (.tuple #[v, .nilIface]) ∧ Aside (CaO own' i w' c room (putL room L x) ∧ OwR own' o w' 3 1 v (goneX room L x).length (rk (goneX room L x))) ∧ Aside (Sn (fun k => k = i) own w own' w') := by
  obtain ⟨mb, eb, l, f, pf, nf, h, h1, h2, h3, rfl⟩ := h
  rw [List.length_map] at hmax
  refine (put_ok h hx hr hmax).mono ?_
  rintro e w' ⟨v, s, l2, pf', nf', rfl, J1, J2, J3⟩
  obtain ⟨C, em, hs, hsub⟩ := J1.it
  have hlt := h.mine
  refine ⟨v, give2 own w.heap.size s i o, rfl, ⟨⟨mb, eb, s :: l2, _, pf', nf', C, ?_, ?_, fun b hb => ?_, em.symm⟩, ?_, fun b hb => ⟨?_, owns_lt J2.it b hb⟩⟩, ⟨fun b hb => give2_old hb, CaI.by h1 h2 h3 J3.it⟩⟩
  · rw [give2_old h.box.lt]; exact h1
  · rw [give2_old h.map.lt]; exact h2
  · rcases List.mem_cons.1 hb with e | e
    · rw [e, give2_old (h.sts eb List.mem_cons_self).lt]; exact h3 eb List.mem_cons_self
    · rcases List.mem_cons.1 e with e | e
      · rw [e]; exact give2_one hs
      · have := List.mem_cons_of_mem eb (hsub b e)
        rw [give2_old (h.sts b this).lt]; exact h3 b this
  · have e1 : (goneX room (l.map f) x).length = (dropL (l.map f) x.k).length - fit (room - x.w) (dropL (l.map f) x.k) := by unfold goneX; rw [List.length_reverse, List.length_drop]
    rw [e1]
    exact owns_any J2.it
  · refine give2_new (owns_base J2.it b hb) (fun e => ?_)
    have hc := C.sts s (List.mem_cons_of_mem _ List.mem_cons_self)
    refine owns_ne J2.it hc (by decide) ?_
    rw [hb, e]
theorem get_o (h : CaO own i w c room L) (hk : Ky k) (now : Int) : Calls Tryd.prog 11 #[ptr c, kv k, .int .i64 now] w fun e w' => e = .returned (.tuple #[gvV L k now, .bool (gotB L k now)]) ∧ Aside (CaO own i w' c room (getL L k now)) ∧ Aside (Sn (fun k => k = i) own w own w') := by
  obtain ⟨mb, eb, l, f, pf, nf, h, h1, h2, h3, rfl⟩ := h
  unfold gvV gotB getL
  have h3' : ∀ l2 : List Nat, (∀ b ∈ l2, b ∈ l) → ∀ b ∈ eb :: l2, own b = i := fun l2 hl b hb => by
    rcases List.mem_cons.1 hb with e | e
    · rw [e]; exact h3 eb List.mem_cons_self
    · exact h3 b (List.mem_cons_of_mem _ (hl b e))
  cases hm : findL (l.map f) k with
  | none =>
    refine (get_none h hk now hm).mono ?_
    rintro e w' ⟨rfl, rfl⟩
    exact ⟨rfl, ⟨mb, eb, l, f, pf, nf, h, h1, h2, h3, rfl⟩, ⟨Sn.refl _ _ _⟩⟩
  | some x =>
    by_cases hu : now < x.u
    · refine (get_good h hk now hm hu).mono ?_
      rintro e w' ⟨rfl, l2, pf', nf', J1, J2⟩
      simp only [if_pos hu, decide_eq_true hu]
      exact ⟨trivial, ⟨mb, eb, l2, f, pf', nf', J1.it.1, h1, h2, h3' l2 J1.it.2.2, J1.it.2.1.symm⟩, ⟨fun _ _ => rfl, CaI.by h1 h2 h3 J2.it⟩⟩
    · refine (get_old h hk now hm (by omega)).mono ?_
      rintro e w' ⟨rfl, l2, pf', nf', J1, J2⟩
      simp only [if_neg hu, decide_eq_false hu]
      exact ⟨trivial, ⟨mb, eb, l2, f, pf', nf', J1.it.1, h1, h2, h3' l2 J1.it.2.2, J1.it.2.1.symm⟩, ⟨fun _ _ => rfl, CaI.by h1 h2 h3 J2.it⟩⟩
theorem drop_o (h : CaO own i w c room L) (hk : Ky k) : Calls Tryd.prog 13 #[ptr c, kv k] w fun e w' => e = .returned (.bool (hasL L k)) ∧ Aside (CaO own i w' c room (dropL L k)) ∧ Aside (Sn (fun k => k = i) own w own w') := by
  obtain ⟨mb, eb, l, f, pf, nf, h, h1, h2, h3, rfl⟩ := h
  refine (dropI h hk).mono ?_
  rintro e w' ⟨rfl, l1, pf1, nf1, J1, J2⟩
  refine ⟨rfl, ⟨mb, eb, l1, f, pf1, nf1, J1.it.1, h1, h2, fun b hb => ?_, J1.it.2.1.symm⟩, ⟨fun _ _ => rfl, CaI.by h1 h2 h3 J2.it⟩⟩
  rcases List.mem_cons.1 hb with e | e
  · rw [e]; exact h3 eb List.mem_cons_self
  · exact h3 b (List.mem_cons_of_mem _ (J1.it.2.2 b e))
theorem peek_o (h : CaO own i w c room L) (hk : Ky k) : Calls Tryd.prog 38 #[ptr c, kv k] w fun e w' => e = .returned (.tuple #[pvV L k, .int .i64 (puI L k), .bool (hasL L k)]) ∧ Aside (Keeps Nowhere w w') := by
  obtain ⟨mb, eb, l, f, pf, nf, h, h1, h2, h3, rfl⟩ := h
  unfold pvV puI hasL
  cases hm : findL (l.map f) k with
  | none =>
    refine (peek_none h hk hm).mono ?_
    rintro e w' ⟨rfl, rfl⟩
    exact ⟨rfl, ⟨Keeps.refl _ _⟩⟩
  | some x =>
    refine (peek_some h hk hm).mono ?_
    rintro e w' ⟨rfl, J⟩
    exact ⟨rfl, J⟩
theorem len_o (h : CaO own i w c room L) : Calls Tryd.prog 16 #[ptr c] w fun e w' => e = .returned (.int .i64 L.length) ∧ w' = w := by
  obtain ⟨mb, eb, l, f, pf, nf, h, h1, h2, h3, rfl⟩ := h
  rw [List.length_map]
  exact len_ h
theorem lweight_o (h : CaO own i w c room L) : Calls Tryd.prog 17 #[ptr c] w fun e w' => e = .returned (.int .i64 (sumL L)) ∧ w' = w := by
  obtain ⟨mb, eb, l, f, pf, nf, h, h1, h2, h3, rfl⟩ := h
  exact weight_ h
theorem keys_o (h : CaO own i w c room L) (hmax : L.length * 8 ≤ 140737488355328) (o : Nat) : Calls Tryd.prog 31 #[ptr c] w fun e w' => ∃ v, e = .returned v ∧ Aside (OwR (give own w.heap.size o) o w' 3 1 v L.length (rk L)) ∧ Aside (Keeps Nowhere w w') := by
  obtain ⟨mb, eb, l, f, pf, nf, h, h1, h2, h3, rfl⟩ := h
  rw [List.length_map] at hmax ⊢
  refine (keys_ h hmax).mono ?_
  rintro e w' ⟨v, rfl, J1, J2⟩
  exact ⟨v, rfl, ⟨OwR.new J1.it⟩, J2⟩
theorem expire_o (h : CaO own i w c room L) (hmax : L.length * 8 ≤ 140737488355328) (now : Int) (o : Nat) : Calls Tryd.prog 14 #[ptr c, .int .i64 now] w fun e w' => ∃ v, e = .returned v ∧ Aside (CaO (give own w.heap.size o) i w' c room (stayL L now) ∧ OwR (give own w.heap.size o) o w' 3 1 v (oldL L now).length (rk (oldL L now))) ∧ Aside (Sn (fun k => k = i) own w (give own w.heap.size o) w') := by
  obtain ⟨mb, eb, l, f, pf, nf, h, h1, h2, h3, rfl⟩ := h
  rw [List.length_map] at hmax
  refine (expire_ h hmax now).mono ?_
  rintro e w' ⟨v, l2, pf', nf', rfl, J1, J2, J3⟩
  refine ⟨v, rfl, ⟨⟨mb, eb, l2, f, pf', nf', J1.it.1, (give_old h.box.lt).trans h1, (give_old h.map.lt).trans h2, fun b hb => ?_, J1.it.2.1.symm⟩, OwR.new J2.it⟩, ⟨fun _ h => give_old h, CaI.by h1 h2 h3 J3.it⟩⟩
  have hm : b ∈ eb :: l := by
    rcases List.mem_cons.1 hb with e | e
    · rw [e]; exact List.mem_cons_self
    · exact List.mem_cons_of_mem _ (J1.it.2.2 b e)
  exact (give_old (h.sts b hm).lt).trans (h3 b hm)
end Go.Proofs.YthjeeianlgkaaaaDoor.Lulnn
