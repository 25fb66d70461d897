/-
  layer 14: an IDs or nil, and the document's beside it
-/
import Derived.Test.YthfedcebbnlmaaaDoorIdG
import Derived.Test.YthfedcebbnlmaaaDoorKeQ
import Derived.Deep.RegionHeld3
namespace Go.Proofs.YthfedcebbnlmaaaDoor
open Go.RowKit

section
variable {own own' : Nat → Nat} {w w' w0 : World} {A : Nat → Addr} {X : List (Nat × TypeId × List Value)} {z : Option (Nat × Im)}
def zv : Option (Nat × Im) → Value
  | none => .pointer none
  | some (p, _) => ptr p
def zf : Option (Nat × Im) → Int
  | none => 0
  | some (_, x) => 2 - x.o
def zb : Option (Nat × Im) → Int
  | none => 0
  | some (_, x) => x.b
def zn : Option (Nat × Im) → Int
  | none => 0
  | some (_, x) => x.n
def zM : Option (Nat × Im) → Int
  | none => 0
  | some (_, x) => x.mark x.o
def zT : Option (Nat × Im) → Int
  | none => 0
  | some (_, x) => x.mark (1 - x.o)
def zMine : Option (Nat × Im) → Int → Bool
  | none, _ => false
  | some (_, x), id => x.mine id
def zKnown : Option (Nat × Im) → Int → Bool
  | none, _ => false
  | some (_, x), id => x.known id
def zLeft : Option (Nat × Im) → Int
  | none => 0
  | some (_, x) => x.left
def zNextN : Option (Nat × Im) → Int
  | none => 0
  | some (_, x) => if x.n ≤ 4294967295 then x.n else 0
def zNextE : Option (Nat × Im) → Int
  | none => 1
  | some (_, x) => if x.n ≤ 4294967295 then 0 else 32
def zNext : Option (Nat × Im) → Option (Nat × Im)
  | none => none
  | some (p, x) => some (p, if x.n ≤ 4294967295 then x.next else x)
def zSentE : Option (Nat × Im) → Int → Int
  | none, _ => 1
  | some (_, x), id => x.sentE id
def zSent : Option (Nat × Im) → Int → Option (Nat × Im)
  | none, _ => none
  | some (p, x), id => some (p, x.sent id)
def zHearE : Option (Nat × Im) → Int → Int
  | none, _ => 1
  | some (_, x), id => x.hearE id
def zHear : Option (Nat × Im) → Int → Option (Nat × Im)
  | none, _ => none
  | some (p, x), id => some (p, x.hear id)
def zOk : Option (Nat × Im) → Prop
  | none => True
  | some (_, x) => x.Ok
theorem zv_next : zv (zNext z) = zv z := by cases z <;> rfl
theorem zv_sent (id : Int) : zv (zSent z id) = zv z := by cases z <;> rfl
theorem zv_hear (id : Int) : zv (zHear z id) = zv z := by cases z <;> rfl
theorem IdW.zok (h : Aside (IdW A w0 X z.toList own w)) : zOk z := by
  match z, h with
  | none, _ => trivial
  | some (p, x), h => exact (h.it.ids 0 p x rfl).ok
theorem mark_le {x : Im} (h : x.Ok) (k : Int) : 0 ≤ x.mark k ∧ x.mark k ≤ 4294967295 := by
  have := h.p0; have := h.p1; have := h.q0; have := h.q1
  unfold Im.mark
  split <;> omega
theorem zM_le (h : zOk z) : 0 ≤ zM z ∧ zM z ≤ 4294967295 := by
  match z, h with
  | none, _ => exact ⟨by decide, by decide⟩
  | some (p, x), h => exact mark_le h _
theorem zT_le (h : zOk z) : 0 ≤ zT z ∧ zT z ≤ 4294967295 := by
  match z, h with
  | none, _ => exact ⟨by decide, by decide⟩
  | some (p, x), h => exact mark_le h _
theorem zNextN_le (h : zOk z) : 0 ≤ zNextN z ∧ zNextN z ≤ 4294967295 := by
  match z, h with
  | none, _ => exact ⟨by decide, by decide⟩
  | some (p, x), h =>
    have hx : x.Ok := h
    have := hx.n1; have := hx.b1; have := hx.o01
    show 0 ≤ (if x.n ≤ 4294967295 then x.n else 0) ∧ (if x.n ≤ 4294967295 then x.n else 0) ≤ 4294967295
    split <;> omega
theorem zmineK (h : Aside (IdW A w0 X z.toList own w)) (id : Int) (h0 : 0 ≤ id) : Calls Tryd.prog 21 #[zv z, .int .u32 id] w fun e w' => e = .returned (.bool (zMine z id)) ∧ Aside (Keeps Nowhere w w') := by
  match z, h with
  | none, h =>
    refine (mine_nil id w).mono ?_
    rintro e w' ⟨rfl, m, rfl⟩
    exact ⟨rfl, ⟨(Keeps.refl _ _).drewN m⟩⟩
  | some (p, x), h => exact mine_k (h.it.ids 0 p x rfl) id h0
theorem zknownK (h : Aside (IdW A w0 X z.toList own w)) (id : Int) (h0 : 0 ≤ id) : Calls Tryd.prog 19 #[zv z, .int .u32 id] w fun e w' => e = .returned (.bool (zKnown z id)) ∧ Aside (Keeps Nowhere w w') := by
  match z, h with
  | none, h =>
    refine (known_nil id w).mono ?_
    rintro e w' ⟨rfl, m, rfl⟩
    exact ⟨rfl, ⟨(Keeps.refl _ _).drewN m⟩⟩
  | some (p, x), h => exact known_k (h.it.ids 0 p x rfl) id h0
theorem zleftK (h : Aside (IdW A w0 X z.toList own w)) : Calls Tryd.prog 10 #[zv z] w fun e w' => e = .returned (.int .i64 (zLeft z)) ∧ Aside (Keeps Nowhere w w') := by
  match z, h with
  | none, h =>
    refine (left_nil w).mono ?_
    rintro e w' ⟨rfl, m, rfl⟩
    exact ⟨rfl, ⟨(Keeps.refl _ _).drewN m⟩⟩
  | some (p, x), h => exact left_k (h.it.ids 0 p x rfl) h.it.g.st.par
theorem zmarksK (h : Aside (IdW A w0 X z.toList own w)) : Calls Tryd.prog 23 #[zv z] w fun e w' => e = .returned (.tuple #[.int .u32 (zM z), .int .u32 (zT z)]) ∧ Aside (Keeps Nowhere w w') := by
  match z, h with
  | none, h =>
    refine (marks_nil w).mono ?_
    rintro e w' ⟨rfl, m, rfl⟩
    exact ⟨rfl, ⟨(Keeps.refl _ _).drewN m⟩⟩
  | some (p, x), h => exact marks_k (h.it.ids 0 p x rfl)
theorem znext (h : Aside (IdW A w0 X z.toList own w)) : Calls Tryd.prog 11 #[zv z] w fun e w' => ∃ v, e = .returned (.tuple #[.int .u32 (zNextN z), v]) ∧ Hid (Coded A v (zNextE z)) ∧ Aside (IdW A w0 X (zNext z).toList own w') := by
  match z, h with
  | none, h =>
    refine (next14_nil h).mono ?_
    rintro e w' ⟨rfl, Y⟩
    exact ⟨_, rfl, hide (.mk 0 1 (by decide) (by decide) rfl), Y⟩
  | some (p, x), h =>
    by_cases hn : x.n ≤ 4294967295
    · have e1 : zNextN (some (p, x)) = x.n := if_pos hn
      have e2 : zNextE (some (p, x)) = 0 := if_pos hn
      have e3 : zNext (some (p, x)) = some (p, x.next) := by show some (p, if _ then _ else _) = _; rw [if_pos hn]
      rw [e1, e2, e3]
      refine (next14 (L := [(p, x)]) h 0 x.n rfl rfl hn).mono ?_
      rintro e w' ⟨rfl, Y⟩
      exact ⟨_, rfl, hide .none, Y⟩
    · have e1 : zNextN (some (p, x)) = 0 := if_neg hn
      have e2 : zNextE (some (p, x)) = 32 := if_neg hn
      have e3 : zNext (some (p, x)) = some (p, x) := by show some (p, if _ then _ else _) = _; rw [if_neg hn]
      rw [e1, e2, e3]
      refine (next14_no (L := [(p, x)]) h 0 rfl hn).mono ?_
      rintro e w' ⟨rfl, Y⟩
      exact ⟨_, rfl, hide (.mk 31 32 (by decide) (by decide) rfl), Y⟩
theorem zsent (h : Aside (IdW A w0 X z.toList own w)) (id : Int) (h0 : 0 ≤ id) (h1 : id ≤ 4294967295) : Calls Tryd.prog 16 #[zv z, .int .u32 id] w fun e w' => ∃ v, e = .returned v ∧ Hid (Coded A v (zSentE z id)) ∧ Aside (IdW A w0 X (zSent z id).toList own w') := by
  match z, h with
  | none, h =>
    refine (sent_nil id h.it.g.st.s).mono ?_
    rintro e w' ⟨rfl, rfl⟩
    exact ⟨_, rfl, hide (.mk 0 1 (by decide) (by decide) rfl), h⟩
  | some (p, x), h => exact sent14 (L := [(p, x)]) h 0 id rfl h0 h1
theorem zhear (h : Aside (IdW A w0 X z.toList own w)) (id : Int) (h0 : 0 ≤ id) (h1 : id ≤ 4294967295) : Calls Tryd.prog 18 #[zv z, .int .u32 id] w fun e w' => ∃ v, e = .returned v ∧ Hid (Coded A v (zHearE z id)) ∧ Aside (IdW A w0 X (zHear z id).toList own w') := by
  match z, h with
  | none, h =>
    refine (hear_nil id h.it.g.st.s).mono ?_
    rintro e w' ⟨rfl, rfl⟩
    exact ⟨_, rfl, hide (.mk 0 1 (by decide) (by decide) rfl), h⟩
  | some (p, x), h => exact hear14 (L := [(p, x)]) h 0 id rfl h0 h1
/-- the document's -/
theorem rf {x : Im} (h : x.Ok) : (2 - x.o = 1 ∧ x.o = 1) ∨ (2 - x.o = 2 ∧ x.o = 0) := by have := h.o01; omega
theorem rf2 {x : Im} (h : x.Ok) : 2 - x.o = 1 ∨ 2 - x.o = 2 := by have := h.o01; omega
theorem rzOwn (h : zOk z) (id : Int) (h0 : 0 ≤ id) (w : World) : Calls Tryd.prog 22 #[.agg #[.int .i64 (zf z), .int .i64 (zb z), .int .i64 (zn z), .int .i64 (zM z), .int .i64 (zT z)], .int .i64 id] w fun e w' => e = .returned (.bool (zMine z id)) ∧ Aside (Keeps Nowhere w w') := by
  match z, h with
  | none, _ => exact rOwn_nil id w
  | some (p, x), h =>
    refine (rOwn _ _ _ _ _ id x.o w (rf h) h0).mono ?_
    rintro e w' ⟨rfl, rfl⟩
    exact ⟨rfl, ⟨(Keeps.refl _ _).alloc _⟩⟩
theorem rzTake (h : zOk z) (w : World) : Calls Tryd.prog 14 #[.agg #[.int .i64 (zf z), .int .i64 (zb z), .int .i64 (zn z), .int .i64 (zM z), .int .i64 (zT z)]] w fun e w' => e = .returned (.tuple #[.agg #[.int .i64 (zf (zNext z)), .int .i64 (zb (zNext z)), .int .i64 (zn (zNext z)), .int .i64 (zM (zNext z)), .int .i64 (zT (zNext z))], .int .i64 (zNextN z), .int .i64 (zNextE z)]) ∧ Aside (Keeps Nowhere w w') := by
  match z, h with
  | none, _ => exact rTake_nil w
  | some (p, x), h =>
    have hx : x.Ok := h
    by_cases hn : x.n ≤ 4294967295
    · have e1 : zNextN (some (p, x)) = x.n := if_pos hn
      have e2 : zNextE (some (p, x)) = 0 := if_pos hn
      have e3 : zNext (some (p, x)) = some (p, x.next) := by show some (p, if _ then _ else _) = _; rw [if_pos hn]
      rw [e1, e2, e3]
      exact rTake _ _ x.n _ _ w (rf2 hx) (by have := hx.n1; have := hx.b1; have := hx.o01; omega) hn
    · have e1 : zNextN (some (p, x)) = 0 := if_neg hn
      have e2 : zNextE (some (p, x)) = 32 := if_neg hn
      have e3 : zNext (some (p, x)) = some (p, x) := by show some (p, if _ then _ else _) = _; rw [if_neg hn]
      rw [e1, e2, e3]
      exact rTake_no _ _ _ _ _ w (rf2 hx) hn
theorem rzLeft (h : zOk z) (w : World) : Calls Tryd.prog 24 #[.agg #[.int .i64 (zf z), .int .i64 (zb z), .int .i64 (zn z), .int .i64 (zM z), .int .i64 (zT z)]] w fun e w' => e = .returned (.int .i64 (zLeft z)) ∧ Aside (Keeps Nowhere w w') := by
  match z, h with
  | none, _ => exact rLeft_nil w
  | some (p, x), h =>
    have hx : x.Ok := h
    have h1 := hx.n2; have h2 := hx.n3; have h3 := hx.o01; have h4 := hx.n1; have h5 := hx.b1
    by_cases hn : x.n ≤ 4294967295
    · have e : zLeft (some (p, x)) = (4294967295 - x.n) / 2 + 1 := by show (4294967296 + x.o - x.n) / 2 = _; omega
      rw [e]
      exact rLeft _ _ x.n _ _ w (rf2 hx) (by omega) hn
    · have e : zLeft (some (p, x)) = 0 := Im.left_zero hx hn
      rw [e]
      exact rLeft_no _ _ _ _ _ w (rf2 hx) hn
theorem known_own {x : Im} {id : Int} (hq : (id != 0 && id % 2 == x.o) = true) : x.known id = decide (id ≤ x.mark x.o) := by
  obtain ⟨h1, h2⟩ := Im.mine_iff.1 hq
  unfold Im.known
  rw [h2, show (id != 0) = true from by simpa using h1, Bool.true_and]
theorem known_other {x : Im} {id : Int} (ho : x.o = 0 ∨ x.o = 1) (hz : ¬ id = 0) (hq : (id != 0 && id % 2 == x.o) = false) : x.known id = decide (id ≤ x.mark (1 - x.o)) := by
  have h2 : id % 2 = 1 - x.o := by
    have : ¬ (id % 2 = x.o) := fun e => by have : x.mine id = true := Im.mine_iff.2 ⟨hz, e⟩; unfold Im.mine at this; rw [hq] at this; cases this
    omega
  unfold Im.known
  rw [h2, show (id != 0) = true from by simpa using hz, Bool.true_and]
theorem rzKnown (h : zOk z) (id : Int) (h0 : 0 ≤ id) (w : World) : Calls Tryd.prog 20 #[.agg #[.int .i64 (zf z), .int .i64 (zb z), .int .i64 (zn z), .int .i64 (zM z), .int .i64 (zT z)], .int .i64 id] w fun e w' => e = .returned (.bool (zKnown z id)) ∧ Aside (Keeps Nowhere w w') := by
  match z, h with
  | none, _ => exact rKnown_nil id w
  | some (p, x), h =>
    have hx : x.Ok := h
    by_cases hz : id = 0
    · subst hz
      exact rKnownZ _ _ _ _ _ 0 x.o w (rf hx) h0 rfl
    · by_cases hq : (id != 0 && id % 2 == x.o) = true
      · have e : zKnown (some (p, x)) id = _ := known_own hq
        rw [e]
        exact rKnownM _ _ _ _ _ id x.o w (rf hx) h0 hz hq
      · have hq' := Bool.eq_false_iff.2 hq
        have e : zKnown (some (p, x)) id = _ := known_other hx.o01 hz hq'
        rw [e]
        exact rKnownT _ _ _ _ _ id x.o w (rf hx) h0 hz hq'
theorem rise_own {x : Im} {id : Int} (h : id % 2 = x.o) : (x.rise id).mark (x.rise id).o = id ∧ (x.rise id).mark (1 - (x.rise id).o) = x.mark (1 - x.o) := by
  rw [Im.rise_o]
  refine ⟨by rw [← h]; exact Im.mark_rise, Im.mark_rise_other (by omega) (by omega)⟩
theorem rise_other {x : Im} {id : Int} (ho : x.o = 0 ∨ x.o = 1) (h : id % 2 = 1 - x.o) : (x.rise id).mark (x.rise id).o = x.mark x.o ∧ (x.rise id).mark (1 - (x.rise id).o) = id := by
  rw [Im.rise_o]
  refine ⟨Im.mark_rise_other ho (by omega), by rw [← h]; exact Im.mark_rise⟩
theorem rzSent (h : zOk z) (id : Int) (h0 : 0 ≤ id) (w : World) : Calls Tryd.prog 15 #[.agg #[.int .i64 (zf z), .int .i64 (zb z), .int .i64 (zn z), .int .i64 (zM z), .int .i64 (zT z)], .int .i64 id] w fun e w' => e = .returned (.tuple #[.agg #[.int .i64 (zf (zSent z id)), .int .i64 (zb (zSent z id)), .int .i64 (zn (zSent z id)), .int .i64 (zM (zSent z id)), .int .i64 (zT (zSent z id))], .int .i64 (zSentE z id)]) ∧ Aside (Keeps Nowhere w w') := by
  match z, h with
  | none, _ => exact rSent_nil id w
  | some (p, x), h =>
    have hx : x.Ok := h
    show Calls Tryd.prog 15 #[refL x, .int .i64 id] w fun e w' => e = .returned (.tuple #[refL (x.sent id), .int .i64 (x.sentE id)]) ∧ Aside (Keeps Nowhere w w')
    by_cases hq : (id != 0 && id % 2 == x.o) = true
    · have hm : x.mine id = true := hq
      have hk := known_own hq
      by_cases hb : id < x.b
      · have e1 : x.sentE id = 9 := by unfold Im.sentE; rw [if_pos hm, if_neg (by omega)]
        have e2 : x.sent id = x := by unfold Im.sent; rw [e1]; rfl
        rw [e1, e2]
        exact rSent9a _ _ _ _ _ id x.o w (rf hx) h0 hq hb
      · by_cases hn : x.n ≤ id
        · have e1 : x.sentE id = 9 := by unfold Im.sentE; rw [if_pos hm, if_neg (by omega)]
          have e2 : x.sent id = x := by unfold Im.sent; rw [e1]; rfl
          rw [e1, e2]
          exact rSent9b _ _ _ _ _ id x.o w (rf hx) h0 hq hb hn
        · by_cases hr : id ≤ x.mark x.o
          · have e1 : x.sentE id = 19 := by unfold Im.sentE; rw [if_pos hm, if_pos (by omega), if_pos (by rw [hk]; simpa using hr)]
            have e2 : x.sent id = x := by unfold Im.sent; rw [e1]; rfl
            rw [e1, e2]
            exact rSent19 _ _ _ _ _ id x.o w (rf hx) h0 hq hb hn hr
          · have e1 : x.sentE id = 0 := by unfold Im.sentE; rw [if_pos hm, if_pos (by omega), if_neg (by rw [hk]; simpa using hr)]
            have e2 : x.sent id = x.rise id := by unfold Im.sent; rw [e1]; rfl
            obtain ⟨a1, a2⟩ := rise_own (Im.mine_iff.1 hm).2
            rw [e1, e2]
            unfold refL
            rw [a1, a2, Im.rise_o, Im.rise_b, Im.rise_n]
            exact rSent0 _ _ _ _ _ id x.o w (rf hx) h0 hq hb hn hr
    · have hq' := Bool.eq_false_iff.2 hq
      have e1 : x.sentE id = 18 := by unfold Im.sentE; rw [if_neg (show ¬ x.mine id = true from hq)]
      have e2 : x.sent id = x := by unfold Im.sent; rw [e1]; rfl
      rw [e1, e2]
      exact rSent18 _ _ _ _ _ id x.o w (rf hx) h0 hq'
theorem rzHear (h : zOk z) (id : Int) (h0 : 0 ≤ id) (w : World) : Calls Tryd.prog 17 #[.agg #[.int .i64 (zf z), .int .i64 (zb z), .int .i64 (zn z), .int .i64 (zM z), .int .i64 (zT z)], .int .i64 id] w fun e w' => e = .returned (.tuple #[.agg #[.int .i64 (zf (zHear z id)), .int .i64 (zb (zHear z id)), .int .i64 (zn (zHear z id)), .int .i64 (zM (zHear z id)), .int .i64 (zT (zHear z id))], .int .i64 (zHearE z id)]) ∧ Aside (Keeps Nowhere w w') := by
  match z, h with
  | none, _ => exact rHear_nil id w
  | some (p, x), h =>
    have hx : x.Ok := h
    show Calls Tryd.prog 17 #[refL x, .int .i64 id] w fun e w' => e = .returned (.tuple #[refL (x.hear id), .int .i64 (x.hearE id)]) ∧ Aside (Keeps Nowhere w w')
    by_cases hz : id = 0
    · subst hz
      have e2 : x.hear 0 = x := rfl
      rw [e2]
      exact rHear14 _ _ _ _ _ 0 x.o w (rf hx) h0 rfl
    · by_cases hq : (id != 0 && id % 2 == x.o) = true
      · have e1 : x.hearE id = 18 := by unfold Im.hearE; rw [if_neg hz, if_pos (show x.mine id = true from hq)]
        have e2 : x.hear id = x := by unfold Im.hear; rw [e1]; rfl
        rw [e1, e2]
        exact rHear18 _ _ _ _ _ id x.o w (rf hx) h0 hz hq
      · have hq' := Bool.eq_false_iff.2 hq
        have hk := known_other hx.o01 hz hq'
        by_cases hr : id ≤ x.mark (1 - x.o)
        · have e1 : x.hearE id = 19 := by unfold Im.hearE; rw [if_neg hz, if_neg (show ¬ x.mine id = true from hq), if_pos (by rw [hk]; simpa using hr)]
          have e2 : x.hear id = x := by unfold Im.hear; rw [e1]; rfl
          rw [e1, e2]
          exact rHear19 _ _ _ _ _ id x.o w (rf hx) h0 hz hq' hr
        · have e1 : x.hearE id = 0 := by unfold Im.hearE; rw [if_neg hz, if_neg (show ¬ x.mine id = true from hq), if_neg (by rw [hk]; simpa using hr)]
          have e2 : x.hear id = x.rise id := by unfold Im.hear; rw [e1]; rfl
          have hp : id % 2 = 1 - x.o := by
            have : ¬ (id % 2 = x.o) := fun e => hq (Im.mine_iff.2 ⟨hz, e⟩)
            have := hx.o01
            omega
          obtain ⟨a1, a2⟩ := rise_other hx.o01 hp
          rw [e1, e2]
          unfold refL
          rw [a1, a2, Im.rise_o, Im.rise_b, Im.rise_n]
          exact rHear0 _ _ _ _ _ id x.o w (rf hx) h0 hz hq' hr
end
end Go.Proofs.YthfedcebbnlmaaaDoor
