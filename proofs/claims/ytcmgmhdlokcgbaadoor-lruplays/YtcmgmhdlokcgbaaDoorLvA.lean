/-
  a cache, or none: every call in numbers
-/
import Derived.Test.YtcmgmhdlokcgbaaDoorLux
namespace Go.Proofs.YtcmgmhdlokcgbaaDoor
open Go.RowKit Lulnn

variable {w w' w0 W : World} {own own' : Nat → Nat} {i c o j b q n : Nat} {room R k now : Int} {L M : List Rx} {I : Nat → Prop} {A : Nat → Addr} {x y : Rx} {z : Oz} {v va vb cv : Value} {ks ms : List Int} {nl : Bool}

/-- a cache's pointer, or nil -/
inductive Cv (own : Nat → Nat) (i : Nat) (w : World) : Value → Bool → Int → List Rx → Prop where
  | some {c : Nat} {room : Int} {L : List Rx} (h : CaO own i w c room L) : Cv own i w (ptr c) false room L
  | none : Cv own i w (.pointer none) true 0 []
theorem Cv.sn (h : Cv own i w cv nl room L) (s : Sn I own w own' w') (hi : ¬ I i) : Cv own' i w' cv nl room L := by
  cases h with
  | some h => exact .some (h.sn s hi)
  | none => exact .none
theorem Cv.quiet (h : Cv own i w cv nl room L) (hk : Keeps Nowhere w w') : Cv own i w' cv nl room L := h.sn (I := fun _ => False) (Sn.same hk) (fun x => x)
theorem Cv.lok (h : Cv own i w cv nl room L) : LOk room L := by
  cases h with
  | some h => exact h.lok
  | none => exact ⟨by decide, by decide, fun x hx => by simp at hx, List.nodup_nil, by decide⟩
theorem cv_len (h : Cv own i w cv nl room L) : Calls Tryd.prog 23 #[cv] w fun e w' => e = .returned (.int .i64 L.length) ∧ w' = w := by
  cases h with
  | some h => exact len_o h
  | none => exact len_nil w
theorem cv_weight (h : Cv own i w cv nl room L) : Calls Tryd.prog 24 #[cv] w fun e w' => e = .returned (.int .i64 (sumL L)) ∧ w' = w := by
  cases h with
  | some h => exact lweight_o h
  | none => exact lweight_nil w
theorem cv_peek (h : Cv own i w cv nl room L) (hk : I6 k) : Calls Tryd.prog 27 #[cv, .int .i64 k] w fun e w' => e = .returned (.tuple #[.int .i64 (peT L k), .int .i64 (puI L k), .bool (hasL L k)]) ∧ Aside (Keeps Nowhere w w') := by
  cases h with
  | some h => exact peek_i h hk
  | none =>
    refine (peek_nil k w).mono ?_
    rintro e w' ⟨rfl, rfl⟩
    exact ⟨rfl, ⟨Keeps.refl _ _⟩⟩
theorem cv_keys (h : Cv own i w cv nl room L) (hmax : L.length * 8 ≤ 140737488355328) (o : Nat) : Calls Tryd.prog 26 #[cv] w fun e w' => ∃ qa qn qc, e = .returned (.slice qa qn qc) ∧ Aside (OwR (give own w.heap.size o) o w' 3 1 (.slice qa qn qc) L.length (rk L)) ∧ Aside (Keeps Nowhere w w') := by
  cases h with
  | some h =>
    refine (keys_o h hmax o).mono ?_
    rintro e w' ⟨v, rfl, J, K⟩
    obtain ⟨qa, qn, qc, rfl⟩ := owns_shapeK J.it.1
    exact ⟨qa, qn, qc, rfl, J, K⟩
  | none =>
    refine (keys_nil w).mono ?_
    rintro e w' ⟨rfl, rfl⟩
    exact ⟨_, _, _, rfl, ⟨OwR.zero⟩, ⟨Keeps.refl _ _⟩⟩
theorem cv_get (h : Cv own i w cv nl room L) (hk : I6 k) (now : Int) : Calls Tryd.prog 18 #[cv, .int .i64 k, .int .i64 now] w fun e w' => e = .returned (.tuple #[.int .i64 (gotT L k now), .bool (gotB L k now)]) ∧ Aside (Cv own i w' cv nl room (getL L k now)) ∧ Aside (Sn (fun k => k = i) own w own w') := by
  cases h with
  | some h =>
    refine (get_i h hk now).mono ?_
    rintro e w' ⟨rfl, J, S⟩
    exact ⟨rfl, ⟨.some J.it⟩, S⟩
  | none =>
    refine (get_nil k now w).mono ?_
    rintro e w' ⟨rfl, rfl⟩
    exact ⟨rfl, ⟨.none⟩, ⟨Sn.refl _ _ _⟩⟩
theorem cv_drop (h : Cv own i w cv nl room L) (hk : I6 k) : Calls Tryd.prog 20 #[cv, .int .i64 k] w fun e w' => e = .returned (.bool (hasL L k)) ∧ Aside (Cv own i w' cv nl room (dropL L k)) ∧ Aside (Sn (fun k => k = i) own w own w') := by
  cases h with
  | some h =>
    refine (drop_o h hk).mono ?_
    rintro e w' ⟨rfl, J, S⟩
    exact ⟨rfl, ⟨.some J.it⟩, S⟩
  | none =>
    refine (drop_nil k w).mono ?_
    rintro e w' ⟨rfl, rfl⟩
    exact ⟨rfl, ⟨.none⟩, ⟨Sn.refl _ _ _⟩⟩
theorem cv_expire (h : Cv own i w cv nl room L) (hmax : L.length * 8 ≤ 140737488355328) (now : Int) (o : Nat) : Calls Tryd.prog 21 #[cv, .int .i64 now] w fun e w' => ∃ qa qn qc, e = .returned (.slice qa qn qc) ∧ Aside (Cv (give own w.heap.size o) i w' cv nl room (stayL L now)) ∧ Aside (OwR (give own w.heap.size o) o w' 3 1 (.slice qa qn qc) (oldL L now).length (rk (oldL L now))) ∧ Aside (Sn (fun k => k = i) own w (give own w.heap.size o) w') := by
  cases h with
  | some h =>
    refine (expire_o h hmax now o).mono ?_
    rintro e w' ⟨v, rfl, J, S⟩
    obtain ⟨qa, qn, qc, rfl⟩ := owns_shapeK J.it.2.1
    exact ⟨qa, qn, qc, rfl, ⟨.some J.it.1⟩, ⟨J.it.2⟩, S⟩
  | none =>
    refine (expire_nil now w).mono ?_
    rintro e w' ⟨rfl, rfl⟩
    exact ⟨_, _, _, rfl, ⟨.none⟩, ⟨OwR.zero⟩, ⟨Sn.quiet (Keeps.refl _ _) o⟩⟩
def putV (nl : Bool) (room : Int) (L : List Rx) (z : Oz) : List Rx := if nl = true then L else putB room L z
def gonV (nl : Bool) (room : Int) (L : List Rx) (z : Oz) : List Int := if nl = true then [] else gonN room L z
def codV (nl : Bool) (room : Int) (z : Oz) : Int := if nl = true then 1 else codN room z
theorem cv_put (h : Cv own i w cv nl room L) (hs : Sents 170 codeVars A w) (hz : z.Ok) (hmax : L.length * 8 ≤ 140737488355328) (o : Nat) :
    Calls Tryd.prog 28 #[cv, .int .i64 z.k, .int .i64 z.v, .int .i64 z.w, .int .i64 z.u] w fun e w' => ∃ qa qc ev own', e = .returned (.tuple #[.slice qa (gonV nl room L z).length qc, ev]) ∧ Hid (Coded A ev (codV nl room z)) ∧ Aside (Cv own' i w' cv nl room (putV nl room L z)) ∧ Aside (OwR own' o w' 3 1 (.slice qa (gonV nl room L z).length qc) (gonV nl room L z).length (iv (gonV nl room L z)) ∧ ∀ y ∈ gonV nl room L z, I6 y) ∧ Aside (Sn (fun k => k = i) own w own' w') := by
  cases h with
  | some h =>
    refine (put_i h hs hz hmax o).mono ?_
    rintro e w' ⟨qa, qc, ev, own', rfl, C, J, R, S⟩
    exact ⟨qa, qc, ev, own', rfl, C, ⟨.some J.it⟩, R, S⟩
  | none =>
    refine (put_nilv hs z.k (.int .i64 z.v) z.w z.u).mono ?_
    rintro e w' ⟨rfl, rfl⟩
    exact ⟨none, 0, _, own, rfl, Coded.mk 0 1 (by decide) (by decide) rfl, ⟨.none⟩, ⟨OwR.zero, fun y hy => by simp [gonV] at hy⟩, ⟨Sn.refl _ _ _⟩⟩
end Go.Proofs.YtcmgmhdlokcgbaaDoor
