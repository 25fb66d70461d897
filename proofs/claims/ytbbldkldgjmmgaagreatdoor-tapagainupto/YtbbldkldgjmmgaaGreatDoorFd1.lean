import Derived.WalkKit
import Derived.Test.YtbbldkldgjmmgaaGreatDoorTFrameG
import Derived.Test.YtbbldkldgjmmgaaGreatDoorTFrameH
import Derived.Test.YtbbldkldgjmmgaaGreatDoorBase
import Derived.Test.YtbbldkldgjmmgaaGreatDoorTCodeViol
import Derived.Test.YtbbldkldgjmmgaaGreatDoorSma
/-
  Bytes as frames: what a row of bytes says, whatever the cutting. Of whatever program.
-/
namespace Go.Proofs.YtbbldkldgjmmgaaGreatDoor

/-- what bytes say: the frames (twelve bytes and a payload each), what is left, the header that may not be -/
structure Out where
  fs : List (List Int × List Int)
  rest : List Int
  dead : Option (List Int)

section
variable (ck : List Int → Bool) (sz : List Int → Nat)

def parse (ns : List Int) : Out :=
  if h12 : ns.length < 12 then ⟨[], ns, none⟩
  else if ck (ns.take 12) = false then ⟨[], [], some (ns.take 12)⟩
  else if ns.length < 12 + sz (ns.take 12) then ⟨[], ns, none⟩
  else
    let r := parse (ns.drop (12 + sz (ns.take 12)))
    ⟨(ns.take 12, (ns.drop 12).take (sz (ns.take 12))) :: r.fs, r.rest, r.dead⟩
termination_by ns.length
decreasing_by simp; omega

/-- what a decoder that lives may hold -/
def Live (hs : List Int) : Prop := hs.length < 12 ∨ (12 ≤ hs.length ∧ ck (hs.take 12) = true ∧ hs.length < 12 + sz (hs.take 12))
def wantsP (hs : List Int) : Nat := if hs.length < 12 then 12 - hs.length else 12 + sz (hs.take 12) - hs.length

variable {ck sz}
theorem parse_short {ns : List Int} (h : ns.length < 12) : parse ck sz ns = ⟨[], ns, none⟩ := by rw [parse, dif_pos h]
theorem parse_bad {ns : List Int} (h : 12 ≤ ns.length) (hc : ck (ns.take 12) = false) : parse ck sz ns = ⟨[], [], some (ns.take 12)⟩ := by
  rw [parse, dif_neg (by omega), if_pos hc]
theorem parse_part {ns : List Int} (h : 12 ≤ ns.length) (hc : ck (ns.take 12) = true) (hl : ns.length < 12 + sz (ns.take 12)) : parse ck sz ns = ⟨[], ns, none⟩ := by
  rw [parse, dif_neg (by omega), if_neg (by simp [hc]), if_pos hl]
theorem parse_more {ns : List Int} (h : 12 ≤ ns.length) (hc : ck (ns.take 12) = true) (hl : 12 + sz (ns.take 12) ≤ ns.length) :
    parse ck sz ns = ⟨(ns.take 12, (ns.drop 12).take (sz (ns.take 12))) :: (parse ck sz (ns.drop (12 + sz (ns.take 12)))).fs, (parse ck sz (ns.drop (12 + sz (ns.take 12)))).rest, (parse ck sz (ns.drop (12 + sz (ns.take 12)))).dead⟩ := by
  rw [parse, dif_neg (by omega), if_neg (by simp [hc]), if_neg (by omega)]
theorem Live.parse {hs : List Int} (h : Live ck sz hs) : Go.Proofs.YtbbldkldgjmmgaaGreatDoor.parse ck sz hs = ⟨[], hs, none⟩ := by
  rcases h with h | ⟨h, hc, hl⟩
  · exact parse_short h
  · exact parse_part h hc hl
theorem Live.nil : Live ck sz [] := .inl (by simp)
theorem Live.wants {hs : List Int} (h : Live ck sz hs) : 0 < wantsP sz hs := by
  unfold wantsP
  rcases h with h | ⟨h, hc, hl⟩
  · rw [if_pos h]; omega
  · rw [if_neg (by omega)]; omega
/-- a whole frame ahead -/
theorem parse_frame (h d bs : List Int) (hh : h.length = 12) (hc : ck h = true) (hd : d.length = sz h) : parse ck sz (h ++ d ++ bs) = ⟨(h, d) :: (parse ck sz bs).fs, (parse ck sz bs).rest, (parse ck sz bs).dead⟩ := by
  have ht : (h ++ d ++ bs).take 12 = h := by rw [List.append_assoc, ← hh, List.take_left]
  have hd1 : (h ++ d ++ bs).drop 12 = d ++ bs := by rw [List.append_assoc, ← hh, List.drop_left]
  have hd2 : (h ++ d ++ bs).drop (12 + sz h) = bs := by rw [← hh, ← hd, ← List.length_append, List.drop_left]
  have hd3 : (d ++ bs).take (sz h) = d := by rw [← hd, List.take_left]
  have := parse_more (ck := ck) (sz := sz) (ns := h ++ d ++ bs) (by simp; omega) (by rw [ht]; exact hc) (by rw [ht]; simp; omega)
  rw [ht, hd1, hd2, hd3] at this
  exact this
theorem parse_dead (h bs : List Int) (hh : h.length = 12) (hc : ck h = false) : parse ck sz (h ++ bs) = ⟨[], [], some h⟩ := by
  have ht : (h ++ bs).take 12 = h := by rw [← hh, List.take_left]
  have := parse_bad (ck := ck) (sz := sz) (ns := h ++ bs) (by simp; omega) (by rw [ht]; exact hc)
  rwa [ht] at this

/-- a frame that may be -/
def FrOk (ck : List Int → Bool) (sz : List Int → Nat) (x : List Int × List Int) : Prop := x.1.length = 12 ∧ ck x.1 = true ∧ x.2.length = sz x.1
def flat : List (List Int × List Int) → List Int
  | [] => []
  | x :: xs => x.1 ++ x.2 ++ flat xs
theorem flat_append : ∀ a b : List (List Int × List Int), flat (a ++ b) = flat a ++ flat b
  | [], b => rfl
  | x :: a, b => by simp [flat, flat_append a b]
theorem parse_flat : ∀ (fs : List (List Int × List Int)) (bs : List Int), (∀ x ∈ fs, FrOk ck sz x) → parse ck sz (flat fs ++ bs) = ⟨fs ++ (parse ck sz bs).fs, (parse ck sz bs).rest, (parse ck sz bs).dead⟩
  | [], bs, _ => by simp [flat]
  | x :: fs, bs, h => by
    obtain ⟨a, b, c⟩ := h x (by simp)
    have := parse_frame (ck := ck) (sz := sz) x.1 x.2 (flat fs ++ bs) a b c
    rw [parse_flat fs bs (fun y hy => h y (by simp [hy]))] at this
    simpa [flat] using this
/-- what the bytes are, by what they say -/
theorem parse_spec (ns : List Int) : (∀ x ∈ (parse ck sz ns).fs, FrOk ck sz x) ∧ (∀ n ∈ (parse ck sz ns).rest, n ∈ ns) ∧
    (((parse ck sz ns).dead = none ∧ Live ck sz (parse ck sz ns).rest ∧ ns = flat (parse ck sz ns).fs ++ (parse ck sz ns).rest) ∨
     ∃ h t, (parse ck sz ns).dead = some h ∧ (parse ck sz ns).rest = [] ∧ h.length = 12 ∧ ck h = false ∧ ns = flat (parse ck sz ns).fs ++ (h ++ t)) := by
  induction hn : ns.length using Nat.strongRecOn generalizing ns with
  | _ n ih =>
    by_cases h : ns.length < 12
    · rw [parse_short h]
      exact ⟨by simp, by simp, .inl ⟨rfl, .inl h, by simp [flat]⟩⟩
    have h12 : 12 ≤ ns.length := by omega
    cases hc : ck (ns.take 12) with
    | false =>
      rw [parse_bad h12 hc]
      exact ⟨by simp, by simp, .inr ⟨ns.take 12, ns.drop 12, rfl, rfl, by simp; omega, hc, by simp [flat]⟩⟩
    | true =>
      by_cases hl : ns.length < 12 + sz (ns.take 12)
      · rw [parse_part h12 hc hl]
        exact ⟨by simp, by simp, .inl ⟨rfl, .inr ⟨h12, hc, hl⟩, by simp [flat]⟩⟩
      · rw [parse_more h12 hc (by omega)]
        obtain ⟨i1, i2, i3⟩ := ih (ns.drop (12 + sz (ns.take 12))).length (by simp; omega) (ns.drop (12 + sz (ns.take 12))) rfl
        have e : ns = ns.take 12 ++ (ns.drop 12).take (sz (ns.take 12)) ++ ns.drop (12 + sz (ns.take 12)) := by
          rw [← List.drop_drop, List.append_assoc, List.take_append_drop, List.take_append_drop]
        refine ⟨?_, fun x hx => List.mem_of_mem_drop (i2 x hx), ?_⟩
        · intro x hx
          rcases List.mem_cons.1 hx with rfl | hx
          · exact ⟨by simp; omega, hc, by simp; omega⟩
          · exact i1 x hx
        · rcases i3 with ⟨a, b, c⟩ | ⟨h', t, a, b, c, d, e'⟩
          · refine .inl ⟨a, b, ?_⟩
            simp only [flat]
            rw [List.append_assoc, ← c]
            exact e
          · refine .inr ⟨h', t, a, b, c, d, ?_⟩
            simp only [flat]
            rw [List.append_assoc, ← e']
            exact e
theorem parse_ok (ns : List Int) : ∀ x ∈ (parse ck sz ns).fs, FrOk ck sz x := (parse_spec ns).1
theorem parse_rest (ns : List Int) (h : (parse ck sz ns).dead = none) : Live ck sz (parse ck sz ns).rest ∧ ns = flat (parse ck sz ns).fs ++ (parse ck sz ns).rest := by
  rcases (parse_spec (ck := ck) (sz := sz) ns).2.2 with ⟨_, a, b⟩ | ⟨h', t, a, _⟩
  · exact ⟨a, b⟩
  · rw [h] at a; cases a
theorem parse_died (ns h : List Int) (hd : (parse ck sz ns).dead = some h) : (parse ck sz ns).rest = [] ∧ h.length = 12 ∧ ck h = false ∧ ∃ t, ns = flat (parse ck sz ns).fs ++ (h ++ t) := by
  rcases (parse_spec (ck := ck) (sz := sz) ns).2.2 with ⟨a, _⟩ | ⟨h', t, a, b, c, d, e⟩
  · rw [hd] at a; cases a
  · rw [hd] at a; cases a; exact ⟨b, c, d, t, e⟩
/-- more bytes behind bytes that a decoder lives with -/
theorem parse_app (a b : List Int) (h : (parse ck sz a).dead = none) :
    parse ck sz (a ++ b) = ⟨(parse ck sz a).fs ++ (parse ck sz ((parse ck sz a).rest ++ b)).fs, (parse ck sz ((parse ck sz a).rest ++ b)).rest, (parse ck sz ((parse ck sz a).rest ++ b)).dead⟩ := by
  have e := (parse_rest a h).2
  have := parse_flat (ck := ck) (sz := sz) (parse ck sz a).fs ((parse ck sz a).rest ++ b) (parse_ok a)
  rw [← List.append_assoc, ← e] at this
  exact this
/-- more bytes behind bytes that it died of -/
theorem parse_app_dead (a b h : List Int) (hd : (parse ck sz a).dead = some h) : parse ck sz (a ++ b) = parse ck sz a := by
  obtain ⟨hr, hl, hc, t, e⟩ := parse_died a h hd
  have := parse_flat (ck := ck) (sz := sz) (parse ck sz a).fs (h ++ (t ++ b)) (parse_ok a)
  rw [parse_dead h (t ++ b) hl hc, ← List.append_assoc, ← List.append_assoc] at this
  have e2 : flat (parse ck sz a).fs ++ h ++ t = a := by rw [List.append_assoc]; exact e.symm
  rw [e2] at this
  rw [this]
  simp only [List.append_nil]
  have : parse ck sz a = ⟨(parse ck sz a).fs, (parse ck sz a).rest, (parse ck sz a).dead⟩ := rfl
  rw [this, hr, hd]
theorem flat_length (fs : List (List Int × List Int)) (h : ∀ x ∈ fs, FrOk ck sz x) : 12 * fs.length ≤ (flat fs).length := by
  induction fs with
  | nil => simp [flat]
  | cons x fs ih =>
    have := ih (fun y hy => h y (by simp [hy]))
    have := (h x (by simp)).1
    simp only [flat, List.length_cons, List.length_append]
    omega
theorem parse_count (ns : List Int) : 12 * (parse ck sz ns).fs.length ≤ ns.length := by
  have h := flat_length (ck := ck) (sz := sz) _ (parse_ok ns)
  rcases (parse_spec (ck := ck) (sz := sz) ns).2.2 with ⟨_, _, b⟩ | ⟨h', t, _, _, _, _, b⟩
  · have := congrArg List.length b
    rw [List.length_append] at this
    omega
  · have := congrArg List.length b
    rw [List.length_append] at this
    omega
end
end Go.Proofs.YtbbldkldgjmmgaaGreatDoor

/-
  package feed: the decoder's memory; New, Err, Held, Wants.
-/
namespace Go.Proofs.YtbbldkldgjmmgaaGreatDoor
open Go.RowKit

/-- a decoder's cells -/
abbrev decL (most : Int) (hv : Value) (v t f s l : Int) (dp : Value) : List Value := [.int .i64 most, hv, .int .u8 v, .int .u8 t, .int .u16 f, .int .u32 s, .int .u32 l, dp]
abbrev dPtr (p : Nat) : Value := .pointer (some ⟨p, 0, none⟩)
/-- a decoder in block p that holds these bytes -/
structure DecIn (w : World) (p : Nat) (most : Int) (hv : Value) (hs : List Int) (v t f s l : Int) (dp : Value) : Prop where
  c : Cells w p 96 (decL most hv v t f s l dp)
  r : w.ownsRow 0 5 1 hv hs.length (bv hs)

theorem new_ok (most : Int) (w : World) (h1 : 1 ≤ most) (h2 : most ≤ 65536) :
    Calls Tryz.prog 29 #[.int .i64 most] w fun e w' => e = .returned (.tuple #[dPtr w.heap.size, .nilIface]) ∧ w' = w.alloc (.cells (decL most (.slice none 0 0) 0 0 0 0 0 (.pointer none)).toArray 96) := by
  have h1' : ¬ most < 1 := by omega
  have h2' : ¬ 65536 < most := by omega
  go_enter Tryz.func29, Tryz.ntmps29
  go_wp2
  go_ret2
  exact ⟨rfl, rfl⟩
theorem new_bad {A : Nat → Addr} (most : Int) (w : World) (hs : SentO A w) (h : most < 1 ∨ 65536 < most) :
    Calls Tryz.prog 29 #[.int .i64 most] w fun e w' => e = .returned (.tuple #[.pointer none, .iface 204 (.pointer (some (A 1)))]) ∧ ∃ n, w' = w.drewN n := by
  have hc := hs.cell 1 8 rfl
  clear hs
  rcases h with h | h
  · go_enter Tryz.func29, Tryz.ntmps29
    go_wp2
    go_quiet (fail)
    go_wp2
    go_ret2
    exact ⟨rfl, _, rfl⟩
  · have h1' : ¬ most < 1 := by omega
    go_enter Tryz.func29, Tryz.ntmps29
    go_wp2
    go_quiet (fail)
    go_wp2
    go_ret2
    exact ⟨rfl, _, rfl⟩
theorem err_nil (w : World) : Calls Tryz.prog 24 #[.pointer none] w fun e w' => e = .returned .nilIface ∧ w' = w := by
  go_enter Tryz.func24, Tryz.ntmps24
  go_wp2
  go_ret
  exact ⟨rfl, rfl⟩
theorem wants_nil (w : World) : Calls Tryz.prog 30 #[.pointer none] w fun e w' => e = .returned (.int .i64 0) ∧ w' = w := by
  go_enter Tryz.func30, Tryz.ntmps30
  go_wp2
  go_ret
  exact ⟨rfl, rfl⟩
section
variable {w : World} {p : Nat} {most : Int} {hv : Value} {hs : List Int} {v t f s l : Int} {dp : Value}
theorem err_live (h : Cells w p 96 (decL most hv v t f s l (.pointer none))) :
    Calls Tryz.prog 24 #[dPtr p] w fun e w' => e = .returned .nilIface ∧ ∃ n, w' = w.drewN n := by
  have c7 := h.cell 7
  simp at c7
  clear h
  go_enter Tryz.func24, Tryz.ntmps24
  go_wp2
  go_ret
  exact ⟨rfl, 0, rfl⟩
theorem err_dead {vb : Nat} (h : Cells w p 96 (decL most hv v t f s l (.pointer (some ⟨vb, 0, none⟩)))) :
    Calls Tryz.prog 24 #[dPtr p] w fun e w' => e = .returned (vio vb) ∧ ∃ n, w' = w.drewN n := by
  have c7 := h.cell 7
  simp at c7
  clear h
  go_enter Tryz.func24, Tryz.ntmps24
  go_wp2
  go_ret
  exact ⟨rfl, 0, rfl⟩
theorem wants_dead {vb : Nat} (h : Cells w p 96 (decL most hv v t f s l (.pointer (some ⟨vb, 0, none⟩)))) :
    Calls Tryz.prog 30 #[dPtr p] w fun e w' => e = .returned (.int .i64 0) ∧ ∃ n, w' = w.drewN n := by
  have c7 := h.cell 7
  simp at c7
  clear h
  go_enter Tryz.func30, Tryz.ntmps30
  go_wp2
  go_ret
  exact ⟨rfl, 0, rfl⟩
/-- how many bytes are wanted -/
def wantsI (n t l : Int) : Int := if n < 12 then 12 - n else 12 + szH t l - n
theorem DecIn.quiet {w' : World} (h : DecIn w p most hv hs v t f s l dp) (hk : Keeps Nowhere w w') : DecIn w' p most hv hs v t f s l dp := ⟨h.c.later hk (fun x => x), owns_later h.r hk (fun _ _ x => x)⟩
theorem DecIn.cells (h : Aside (DecIn w p most hv hs v t f s l dp)) :
    w.cell? ⟨p, 0, none⟩ = some (.int .i64 most) ∧ w.cell? ⟨p, 1, none⟩ = some hv ∧ w.cell? ⟨p, 2, none⟩ = some (.int .u8 v) ∧ w.cell? ⟨p, 3, none⟩ = some (.int .u8 t) ∧ w.cell? ⟨p, 4, none⟩ = some (.int .u16 f) ∧ w.cell? ⟨p, 5, none⟩ = some (.int .u32 s) ∧ w.cell? ⟨p, 6, none⟩ = some (.int .u32 l) ∧ w.cell? ⟨p, 7, none⟩ = some dp :=
  ⟨h.it.c.cell 0, h.it.c.cell 1, h.it.c.cell 2, h.it.c.cell 3, h.it.c.cell 4, h.it.c.cell 5, h.it.c.cell 6, h.it.c.cell 7⟩
theorem size_d (hl0 : 0 ≤ l) (hl1 : l ≤ 4294967295) (W : World) (h : Aside (DecIn W p most hv hs v t f s l dp)) :
    Calls Tryz.prog 14 #[hdr v t f s l] W fun e w' => e = .returned (.int .i64 (szH t l)) ∧ Aside (DecIn w' p most hv hs v t f s l dp) ∧ Aside (Keeps Nowhere W w') :=
  (size_any v t f s l W hl0 hl1).mono (by rintro e w' ⟨rfl, rfl⟩; exact ⟨rfl, ⟨h.it.quiet ((Keeps.refl _ _).alloc _)⟩, ⟨(Keeps.refl _ _).alloc _⟩⟩)
set_option maxHeartbeats 400000 in
theorem wants_long {q : Option Addr} {n c : Nat} (z : Int) (hz : szH t l = z) (h : DecIn w p most (.slice q n c) hs v t f s l (.pointer none)) (hl0 : 0 ≤ l) (hl1 : l ≤ 4294967295) (hn : n ≤ 4294967400) (hz0 : 0 ≤ z) (hz1 : z ≤ 4294967295) (h12 : ¬ n < 12) :
    Calls Tryz.prog 30 #[dPtr p] w fun e w' => e = .returned (.int .i64 (12 + z - n)) ∧ Keeps Nowhere w w' := by
  have hZ := Aside.mk (fun W => size_any v t f s l W hl0 hl1)
  rw [hz] at hZ
  clear hz
  have h12' : ¬ (n : Int) < 12 := by omega
  have c1 := h.c.cell 1
  have c2 := h.c.cell 2
  have c3 := h.c.cell 3
  have c4 := h.c.cell 4
  have c5 := h.c.cell 5
  have c6 := h.c.cell 6
  have c7 := h.c.cell 7
  simp at c1 c2 c3 c4 c5 c6 c7
  have c1' := fun ob => cell_alloc ob c1
  have e1 : Aside (IntKind.i64.wrap (IntKind.i64.wrap (12 + z) - (n : Int)) = 12 + z - n) := ⟨by rw [IntKind.wrap_i64, IntKind.wrap_i64]; omega⟩
  clear h
  go_enter Tryz.func30, Tryz.ntmps30
  go_wp2_with fail
  go_region_with ((go_at_call 14; refine (hZ.it _).mono ?_; rintro e w2 ⟨rfl, rfl⟩))
  all_goals (go_wp2_with fail)
  all_goals (go_ret; refine ⟨?_, ((Keeps.refl _ _).alloc _).drew⟩; exact congrArg (fun x => Ending.returned (Value.int .i64 x)) e1.it)
theorem wants_live (h : DecIn w p most hv hs v t f s l (.pointer none)) (hl0 : 0 ≤ l) (hl1 : l ≤ 4294967295) (hn : hs.length ≤ 4294967400) :
    Calls Tryz.prog 30 #[dPtr p] w fun e w' => e = .returned (.int .i64 (wantsI hs.length t l)) ∧ Keeps Nowhere w w' := by
  obtain ⟨q, c, rfl⟩ := owns_val h.r
  by_cases h12 : hs.length < 12
  · have h12' : (hs.length : Int) < 12 := by omega
    have e1 : Aside (wantsI hs.length t l = 12 - hs.length) := ⟨if_pos h12'⟩
    rw [e1.it]
    have c1 := h.c.cell 1
    have c7 := h.c.cell 7
    simp at c1 c7
    clear h
    go_enter Tryz.func30, Tryz.ntmps30
    go_wp2
    go_ret
    exact ⟨rfl, Keeps.refl _ _⟩
  · have e1 : Aside (wantsI hs.length t l = 12 + szH t l - hs.length) := ⟨if_neg (by omega)⟩
    rw [e1.it]
    exact wants_long (szH t l) rfl h hl0 hl1 hn (by unfold szH; split <;> omega) (by unfold szH; split <;> omega) h12
end
end Go.Proofs.YtbbldkldgjmmgaaGreatDoor

/-
  package feed: append onto what is held; take.
-/
namespace Go.Proofs.YtbbldkldgjmmgaaGreatDoor
open Go.RowKit

/-- a decoder in the middle of things: it holds hs, and its header was read off g -/
structure DecM (own : Nat → Nat) (i : Nat) (w : World) (p : Nat) (most : Int) (hs g : List Int) : Prop where
  hp : own p = i
  d : ∃ hv, DecIn w p most hv hs (dV g) (dT g) (dF g) (dS g) (dL g) (.pointer none) ∧ ∀ k, hv.ownBlock = some k → own k = i
  b : AreBytes hs
  g : AreBytes g
section
variable {own : Nat → Nat} {i : Nat} {w w' : World} {p : Nat} {most : Int} {hs g : List Int}
theorem DecM.quiet (h : DecM own i w p most hs g) (hk : Keeps Nowhere w w') : DecM own i w' p most hs g := by
  obtain ⟨hp, ⟨hv, ⟨c, r⟩, ho⟩, hb, hg⟩ := h
  exact ⟨hp, ⟨hv, ⟨c.later hk (fun x => x), owns_later r hk (fun _ _ x => x)⟩, ho⟩, hb, hg⟩
theorem DecM.lt (h : DecM own i w p most hs g) : p < w.heap.size := by
  obtain ⟨_, ⟨_, ⟨c, _⟩, _⟩, _, _⟩ := h
  exact c.lt
theorem DecM.ext (h : DecM own i w p most hs g) (own' : Nat → Nat) (he : ∀ k, k < w.heap.size → own' k = own k) : DecM own' i w p most hs g := by
  have hl := h.lt
  obtain ⟨hp, ⟨hv, ⟨c, r⟩, ho⟩, hb, hg⟩ := h
  exact ⟨(he p hl).trans hp, ⟨hv, ⟨c, r⟩, fun k hk => (he k (owns_lt r k hk)).trans (ho k hk)⟩, hb, hg⟩
theorem wants_m (h : DecM own i w p most hs g) (hn : hs.length ≤ 4294967400) :
    Calls Tryz.prog 30 #[dPtr p] w fun e w' => e = .returned (.int .i64 (wantsI hs.length (dT g) (dL g))) ∧ Keeps Nowhere w w' := by
  obtain ⟨hp, ⟨hv, d, ho⟩, hb, hg⟩ := h
  exact wants_live d (dL_bounds hg).1 (dL_bounds hg).2 hn
theorem AreBytes.append {a b : List Int} (ha : AreBytes a) (hb : AreBytes b) : AreBytes (a ++ b) := fun n hn => (List.mem_append.1 hn).elim (ha n) (hb n)
theorem AreBytes.take {ns : List Int} (h : AreBytes ns) (k : Nat) : AreBytes (ns.take k) := fun n hn => h n (List.mem_of_mem_take hn)

/-- a cell that can be read and written -/
def Spot (w : World) (p j : Nat) (v : Value) : Prop := w.cell? ⟨p, j, none⟩ = some v ∧ w.frozen? ⟨p, j, none⟩ = false
theorem Cells.spot {w : World} {p : Nat} {e : TypeId} {xs : List Value} (h : Cells w p e xs) (j : Nat) (v : Value) (hv : xs[j]? = some v) : Spot w p j v := ⟨(h.cell j).trans hv, h.frozen j⟩

theorem take_end {hv : Value} {ms : List Int} {w1 w2 : World} {q2 : Option Addr} {l2 c2 : Nat} (h : DecM own i w p most hs g) (hm : AreBytes ms) (ho : ∀ k, hv.ownBlock = some k → own k = i) (K1 : Keeps Nowhere w w1)
    (D1 : DecIn w1 p most hv hs (dV g) (dT g) (dF g) (dS g) (dL g) (.pointer none)) (o2 : w2.ownsRow 0 5 1 (.slice q2 l2 c2) (hs ++ ms).length (bv (hs ++ ms))) (k2 : Keeps (fun b => hv.ownBlock = some b) w1 w2)
    (b2 : ∀ b, (Value.slice q2 l2 c2).ownBlock = some b → hv.ownBlock = some b ∨ w1.heap.size ≤ b) :
    DecM (give own w.heap.size i) i (w2.setCell ⟨p, 1, none⟩ (.slice q2 l2 c2)) p most (hs ++ ms) g ∧ Keeps (fun k => own k = i) w (w2.setCell ⟨p, 1, none⟩ (.slice q2 l2 c2)) := by
  have C2 := D1.c.later k2 (owns_ne D1.r D1.c (by decide))
  have N2 := owns_ne o2 C2 (by decide)
  have KK : Keeps (fun k => own k = i) w w2 := (Keeps.any K1).next k2 (fun k e _ => ho k e)
  have K3 : Keeps (fun k => own k = i) w (w2.setCell ⟨p, 1, none⟩ (.slice q2 l2 c2)) := KK.setCell _ _ (fun _ => h.hp)
  refine ⟨⟨?_, ⟨.slice q2 l2 c2, ⟨C2.setCell 1 _, ?_⟩, fun k hk => ?_⟩, h.b.append hm, h.g⟩, K3⟩
  · rw [give_old h.lt]; exact h.hp
  · refine owns_later o2 (((Keeps.refl (fun k => k = p) w2).setCell ⟨p, 1, none⟩ _ (fun _ => rfl))) (fun b hb e => N2 (e ▸ hb))
  · rcases b2 k hk with e | e
    · have : k < w.heap.size ∨ w.heap.size ≤ k := by omega
      rcases this with hl | hl
      · rw [give_old hl]; exact ho k e
      · exact give_new hl
    · exact give_new (Nat.le_trans K1.size e)
set_option maxHeartbeats 4000000 in
theorem take_m {S : Nat → Prop} (h : DecM own i w p most hs g) (x : Value) (bs : List Int) (hr : RdS S w x bs) (hSi : ∀ k, own k = i → S k) (hbb : AreBytes bs) (n : Nat) (hmin : min (bs.length : Int) (wantsI hs.length (dT g) (dL g)) = n) (hhs : hs.length ≤ 4294967400) (hbs : bs.length ≤ 140737488351232) :
    Calls Tryz.prog 54 #[dPtr p, x] w fun e w' => ∃ y own', e = .returned y ∧ Aside ((∀ k, k < w.heap.size → own' k = own k) ∧ RdS (fun k => S k ∨ w.heap.size ≤ k) w' y (bs.drop n) ∧ DecM own' i w' p most (hs ++ bs.take n) g ∧ Keeps (fun k => own k = i) w w') := by
  have hn : n ≤ bs.length := by omega
  have hW := Aside.mk (wants_m h hhs)
  have H := Aside.mk h
  have R := Aside.mk hr
  have HSi := Aside.mk hSi
  obtain ⟨q, c, rfl, hlc⟩ := hr.shape
  obtain ⟨hv, d, ho⟩ := h.d
  have D := Aside.mk d
  have HO := Aside.mk ho
  have RT : ∀ W, Keeps Nowhere w W → Rd W (.slice q n c) (bs.take n) := fun W hk => by
    refine ⟨?_, ?_⟩
    · have h1 := (hr.rd.1.later (Keeps.any hk)).mono (S' := Nowhere) (fun _ x _ => x.elim)
      rw [bv_take]
      exact h1.slice n (by rw [bv_length]; exact hn)
    · intro l c' e
      injection e with e1 e2 e3
      exact e3 ▸ hr.2 bs.length c (by rw [e1])
  have RT := Aside.mk RT
  have HB := Aside.mk hbb
  have HH := Aside.mk hhs
  have HS := Aside.mk hbs
  have hnc : n ≤ c := by omega
  have hwb : wantsI hs.length (dT g) (dL g) ≤ 4294967400 := by
    have := dL_bounds H.it.g
    unfold wantsI szH
    split
    · omega
    · split <;> omega
  have HW : Aside (hs.length + (bs.take n).length ≤ 140737488355328) := ⟨by simp; omega⟩
  generalize wantsI hs.length (dT g) (dL g) = m at *
  have hor : ((n = bs.length) ∧ (bs.length : Int) ≤ m) ∨ (m = n ∧ n < bs.length) := by omega
  obtain ⟨L, hL⟩ : ∃ L, Aside (bs.length = L) := ⟨_, ⟨rfl⟩⟩
  rw [hL.it] at hor hn hlc ⊢
  clear h hr hSi d ho hbb hhs hbs hmin hwb
  have YY : ∀ W, Keeps (fun k => own k = i) w W → RdS (fun k => S k ∨ w.heap.size ≤ k) W (.slice (if c = n then q else q.map (·.add n)) (L - n) (c - n)) (bs.drop n) := fun W hk => (hL.it ▸ R.it.later (hk.mono (fun k e _ => HSi.it k e))).drop (by rw [hL.it]; exact hn)
  rcases hor with ⟨rfl, hm⟩ | ⟨rfl, hm⟩
  · by_cases hcn : n = c
    · subst hcn
      simp only [if_true, Nat.sub_self] at YY
      have YY := Aside.mk YY
      go_enter Tryz.func54, Tryz.ntmps54
      go_wp2_with (go_at_call 30; refine hW.it.mono ?_; rintro e w1 ⟨rfl, K1⟩; have K1 := Aside.mk K1)
      have K1 := Aside.mk K1.it.drew
      have D1 := Aside.mk (D.it.quiet K1.it)
      have P1 : Aside (Spot w1.drew p 1 hv) := ⟨D1.it.c.spot 1 hv rfl⟩
      have s1a := P1.it.1
      have s1b := P1.it.2
      go_region_law
        ((refine step_appendO 19 rfl rfl (.tmp 15) (.tmp 18) rfl hv _ hs (bs.take n) D1.it.r (RT.it _ K1.it) HW.it rfl rfl ?_; intro q2 l2 c2 w2 o2 k2 b2; have C2 : Aside (Cells w2 p 96 _) := ⟨D1.it.c.later k2.it (owns_ne D1.it.r D1.it.c (by decide))⟩; have P2 : Aside (Spot w2 p 1 hv) := ⟨C2.it.spot 1 hv rfl⟩; have s2a := P2.it.1; have s2b := P2.it.2))
      go_wp2_with fail
      go_ret
      obtain ⟨f1, f2⟩ := take_end H.it (HB.it.take n) HO.it K1.it D1.it o2.it k2.it b2.it
      exact ⟨_, _, rfl, ⟨fun k hk => give_old hk, YY.it _ f2, f1, f2⟩⟩
    · have hcn : ¬ c = n := fun e => hcn e.symm
      simp only [if_neg hcn, Nat.sub_self] at YY
      have YY := Aside.mk YY
      go_enter Tryz.func54, Tryz.ntmps54
      go_wp2_with (go_at_call 30; refine hW.it.mono ?_; rintro e w1 ⟨rfl, K1⟩; have K1 := Aside.mk K1)
      have K1 := Aside.mk K1.it.drew
      have D1 := Aside.mk (D.it.quiet K1.it)
      have P1 : Aside (Spot w1.drew p 1 hv) := ⟨D1.it.c.spot 1 hv rfl⟩
      have s1a := P1.it.1
      have s1b := P1.it.2
      go_region_law
        ((refine step_appendO 19 rfl rfl (.tmp 15) (.tmp 18) rfl hv _ hs (bs.take n) D1.it.r (RT.it _ K1.it) HW.it rfl rfl ?_; intro q2 l2 c2 w2 o2 k2 b2; have C2 : Aside (Cells w2 p 96 _) := ⟨D1.it.c.later k2.it (owns_ne D1.it.r D1.it.c (by decide))⟩; have P2 : Aside (Spot w2 p 1 hv) := ⟨C2.it.spot 1 hv rfl⟩; have s2a := P2.it.1; have s2b := P2.it.2))
      go_wp2_with fail
      go_ret
      obtain ⟨f1, f2⟩ := take_end H.it (HB.it.take n) HO.it K1.it D1.it o2.it k2.it b2.it
      exact ⟨_, _, rfl, ⟨fun k hk => give_old hk, YY.it _ f2, f1, f2⟩⟩
  · have hcn : ¬ c = n := by omega
    simp only [if_neg hcn] at YY
    have YY := Aside.mk YY
    go_enter Tryz.func54, Tryz.ntmps54
    go_wp2_with (go_at_call 30; refine hW.it.mono ?_; rintro e w1 ⟨rfl, K1⟩; have K1 := Aside.mk K1)
    have K1 := Aside.mk K1.it.drew
    have D1 := Aside.mk (D.it.quiet K1.it)
    have P1 : Aside (Spot w1.drew p 1 hv) := ⟨D1.it.c.spot 1 hv rfl⟩
    have s1a := P1.it.1
    have s1b := P1.it.2
    go_region_law
      ((refine step_appendO 19 rfl rfl (.tmp 15) (.tmp 18) rfl hv _ hs (bs.take n) D1.it.r (RT.it _ K1.it) HW.it rfl rfl ?_; intro q2 l2 c2 w2 o2 k2 b2; have C2 : Aside (Cells w2 p 96 _) := ⟨D1.it.c.later k2.it (owns_ne D1.it.r D1.it.c (by decide))⟩; have P2 : Aside (Spot w2 p 1 hv) := ⟨C2.it.spot 1 hv rfl⟩; have s2a := P2.it.1; have s2b := P2.it.2))
    go_wp2_with fail
    go_ret
    obtain ⟨f1, f2⟩ := take_end H.it (HB.it.take n) HO.it K1.it D1.it o2.it k2.it b2.it
    exact ⟨_, _, rfl, ⟨fun k hk => give_old hk, YY.it _ f2, f1, f2⟩⟩
end
end Go.Proofs.YtbbldkldgjmmgaaGreatDoor

/-
  package feed: judge.
-/
namespace Go.Proofs.YtbbldkldgjmmgaaGreatDoor
open Go.RowKit

/-- the number that Check gives the header that twelve bytes write -/
def chkH (most : Int) (h : List Int) : Int := chk (dV h) (dT h) (dF h) (dS h) (dL h) most
def ckH (most : Int) (h : List Int) : Bool := decide (chkH most h = 0)
def szN (h : List Int) : Nat := (szH (dT h) (dL h)).toNat
theorem dT_bounds {ns : List Int} (hb : AreBytes ns) : 0 ≤ dT ns ∧ dT ns ≤ 255 := by
  unfold dT
  split
  · omega
  · exact getD_byte hb 1
theorem szH_nat {h : List Int} (hb : AreBytes h) : szH (dT h) (dL h) = (szN h : Int) := by
  have := dL_bounds hb
  unfold szN szH
  split <;> omega

/-- a violation by the header h, in block vb, that is j's -/
def VioAt (A : Nat → Addr) (own : Nat → Nat) (j : Nat) (w : World) (most : Int) (h : List Int) (vb : Nat) : Prop :=
  own vb = j ∧ ∃ k : Nat, k < 42 ∧ k ≠ 27 ∧ chkH most h = (k : Int) + 1 ∧ Cells w vb 106 [.int .u32 (dS h), .iface 204 (.pointer (some (A k)))]
/-- a decoder that died of the header h -/
structure DeadM (A : Nat → Addr) (own : Nat → Nat) (i j : Nat) (w : World) (p : Nat) (most : Int) (h : List Int) : Prop where
  hp : own p = i
  d : ∃ vb g, Cells w p 96 (decL most (.slice none 0 0) (dV g) (dT g) (dF g) (dS g) (dL g) (dPtr vb)) ∧ VioAt A own j w most h vb

/-- what lies below: the sentinels, the table, the handle of 'error', as they were -/
structure Base (A : Nat → Addr) (w0 : World) : Prop where
  s : SentO A w0
  l : Lawful w0
  e : ErrTy w0
structure Gr (A : Nat → Addr) (w0 : World) (own : Nat → Nat) (w : World) : Prop where
  b : Base A w0
  g : Ground w0.heap.size w0 own w
theorem Base.later {A : Nat → Addr} {w0 w : World} (h : Base A w0) (hb : Below w0.heap.size w0 w) : Base A w := ⟨h.s.later hb, h.l.later hb, h.e.later hb⟩
theorem Gr.here {A : Nat → Addr} {w0 w : World} {own : Nat → Nat} (h : Gr A w0 own w) : Base A w := h.b.later h.g.bel
theorem Gr.step {A : Nat → Addr} {w0 w w' : World} {own own' : Nat → Nat} {i : Nat} (h : Gr A w0 own w) (hk : Keeps (fun k => own k = i) w w') (hi : i ≠ 0) (he : ∀ k, k < w.heap.size → own' k = own k) : Gr A w0 own' w' := by
  refine ⟨h.b, fun k hlt => ?_, ?_, Nat.le_trans h.g.size hk.size⟩
  · rw [he k (by have := h.g.size; omega)]; exact h.g.zero k hlt
  · refine below_next h.g.bel hk h.g.size (fun k e _ => ?_)
    rcases Nat.lt_or_ge k w0.heap.size with hlt | hge
    · have := h.g.zero k hlt; omega
    · exact hge
theorem Gr.quiet {A : Nat → Addr} {w0 w w' : World} {own : Nat → Nat} (h : Gr A w0 own w) (hk : Keeps Nowhere w w') : Gr A w0 own w' := ⟨h.b, h.g.quiet hk⟩
theorem Gr.ext {A : Nat → Addr} {w0 w : World} {own own' : Nat → Nat} (h : Gr A w0 own w) (he : ∀ k, k < w.heap.size → own' k = own k) : Gr A w0 own' w :=
  ⟨h.b, fun k hlt => by rw [he k (by have := h.g.size; omega)]; exact h.g.zero k hlt, h.g.bel, h.g.size⟩

/-- the sentinels, the table and a decoder's cells -/
structure JAt (A : Nat → Addr) (p : Nat) (cs : List Value) (w : World) : Prop where
  s : SentO A w
  l : Lawful w
  c : Cells w p 96 cs
theorem JAt.quiet {A : Nat → Addr} {p : Nat} {cs : List Value} {w w' : World} (h : JAt A p cs w) (hk : Keeps Nowhere w w') : JAt A p cs w' := ⟨h.s.later hk.bel, h.l.later hk.bel, h.c.later hk (fun x => x)⟩
section
variable {A : Nat → Addr} {own : Nat → Nat} {i : Nat} {w w' : World} {p : Nat} {most : Int} {hs g : List Int}
theorem JAt.cells {hv dp : Value} {v t f s l : Int} (h : Aside (JAt A p (decL most hv v t f s l dp) w)) :
    w.cell? ⟨p, 0, none⟩ = some (.int .i64 most) ∧ w.cell? ⟨p, 1, none⟩ = some hv ∧ w.cell? ⟨p, 2, none⟩ = some (.int .u8 v) ∧ w.cell? ⟨p, 3, none⟩ = some (.int .u8 t) ∧ w.cell? ⟨p, 4, none⟩ = some (.int .u16 f) ∧ w.cell? ⟨p, 5, none⟩ = some (.int .u32 s) ∧ w.cell? ⟨p, 6, none⟩ = some (.int .u32 l) ∧ w.cell? ⟨p, 7, none⟩ = some dp :=
  ⟨h.it.c.cell 0, h.it.c.cell 1, h.it.c.cell 2, h.it.c.cell 3, h.it.c.cell 4, h.it.c.cell 5, h.it.c.cell 6, h.it.c.cell 7⟩
theorem check_j {hv dp : Value} {v t f s l : Int} (ht0 : 0 ≤ t) (ht1 : t ≤ 255) (hf : 0 ≤ f) (hl0 : 0 ≤ l) (hl1 : l ≤ 4294967295) (W : World) (h : Aside (JAt A p (decL most hv v t f s l dp) W)) :
    Calls Tryz.prog 7 #[hdr v t f s l, .int .i64 most] W fun e w' => ∃ ev, e = .returned ev ∧ Aside (Coded A ev (chk v t f s l most)) ∧ Aside (JAt A p (decL most hv v t f s l dp) w') ∧ Aside (Keeps Nowhere W w') :=
  (check_any v t f s l most W h.it.s h.it.l ht0 ht1 hf hl0 hl1).mono (by rintro e w' ⟨⟨ev, rfl, hv⟩, hb⟩; exact ⟨ev, rfl, ⟨hv⟩, ⟨h.it.quiet (Keeps.ofBelow hb)⟩, ⟨Keeps.ofBelow hb⟩⟩)

theorem head_set {hv dp : Value} {v t f s l : Int} (C : Cells w p 96 (decL most hv v t f s l dp)) (O : w.ownsRow 0 5 1 hv hs.length (bv hs)) (v' t' f' s' l' : Int) (W : World)
    (hW : W = (((((w.setCell ⟨p, 2, none⟩ (.int .u8 v')).setCell ⟨p, 3, none⟩ (.int .u8 t')).setCell ⟨p, 4, none⟩ (.int .u16 f')).setCell ⟨p, 5, none⟩ (.int .u32 s')).setCell ⟨p, 6, none⟩ (.int .u32 l'))) :
    Cells W p 96 (decL most hv v' t' f' s' l' dp) ∧ W.ownsRow 0 5 1 hv hs.length (bv hs) ∧ Keeps (fun k => k = p) w W := by
  have N := owns_ne O C (by decide)
  have Kp : Keeps (fun k => k = p) w W := by
    rw [hW]
    exact (((((Keeps.refl (fun k => k = p) w).setCell ⟨p, 2, none⟩ (.int .u8 v') (fun _ => rfl)).setCell ⟨p, 3, none⟩ (.int .u8 t') (fun _ => rfl)).setCell ⟨p, 4, none⟩ (.int .u16 f') (fun _ => rfl)).setCell ⟨p, 5, none⟩ (.int .u32 s') (fun _ => rfl)).setCell ⟨p, 6, none⟩ (.int .u32 l') (fun _ => rfl)
  refine ⟨?_, owns_later O Kp (fun b hb e => N (e ▸ hb)), Kp⟩
  rw [hW]
  exact ((((C.setCell 2 (.int .u8 v')).setCell 3 (.int .u8 t')).setCell 4 (.int .u16 f')).setCell 5 (.int .u32 s')).setCell 6 (.int .u32 l')

theorem dead_end {w3 : World} {hv : Value} {k : Nat} (j : Nat) (hp : own p = i) (hpl : p < w.heap.size) (K : Keeps (fun k => own k = i) w w3) (C : Cells w3 p 96 (decL most hv (dV g) (dT g) (dF g) (dS g) (dL g) (.pointer none))) (hk : k < 42) (hk27 : k ≠ 27) (ek : chkH most hs = (k : Int) + 1) (W : World)
    (hW : W = ((w3.alloc (.cells #[.int .u32 (dS hs), .iface 204 (.pointer (some (A k)))] 106)).setCell ⟨p, 1, none⟩ (.slice none 0 0)).setCell ⟨p, 7, none⟩ (dPtr w3.heap.size)) :
    Keeps (fun k => own k = i) w W ∧ DeadM A (give own w.heap.size j) i j W p most hs := by
  have KA : Keeps (fun k => own k = i) w (w3.alloc (.cells #[.int .u32 (dS hs), .iface 204 (.pointer (some (A k)))] 106)) := K.alloc _
  have KW : Keeps (fun k => own k = i) w W := by
    rw [hW]
    exact (KA.setCell ⟨p, 1, none⟩ (.slice none 0 0) (fun _ => hp)).setCell ⟨p, 7, none⟩ (dPtr w3.heap.size) (fun _ => hp)
  have CA : Cells (w3.alloc (.cells #[.int .u32 (dS hs), .iface 204 (.pointer (some (A k)))] 106)) p 96 (decL most hv (dV g) (dT g) (dF g) (dS g) (dL g) (.pointer none)) := C.later ((Keeps.refl Nowhere w3).alloc _) (fun x => x)
  have VA : Cells (w3.alloc (.cells #[.int .u32 (dS hs), .iface 204 (.pointer (some (A k)))] 106)) w3.heap.size 106 [.int .u32 (dS hs), .iface 204 (.pointer (some (A k)))] := Cells.new w3 _ _
  have hne : w3.heap.size ≠ p := by have := C.lt; omega
  refine ⟨KW, ⟨by rw [give_old hpl]; exact hp, w3.heap.size, g, ?_, give_new K.size, k, hk, hk27, ek, ?_⟩⟩
  · rw [hW]
    exact (CA.setCell 1 (.slice none 0 0)).setCell 7 (dPtr w3.heap.size)
  · rw [hW]
    exact (VA.setOther ⟨p, 1, none⟩ (.slice none 0 0) hne).setOther ⟨p, 7, none⟩ (dPtr w3.heap.size) hne

set_option maxHeartbeats 4000000 in
theorem judge_m {w0 : World} (j : Nat) (G : Gr A w0 own w) (hi : i ≠ 0) (h : DecM own i w p most hs g) (hlen : hs.length = 12) :
    Calls Tryz.prog 55 #[dPtr p] w fun e w' => e = .returned (.bool (ckH most hs)) ∧ Aside (∃ own', (∀ k, k < w.heap.size → own' k = own k) ∧ Keeps (fun k => own k = i) w w' ∧
      ((ckH most hs = true ∧ DecM own' i w' p most hs hs) ∨ (ckH most hs = false ∧ DeadM A own' i j w' p most hs))) := by
  have GG := Aside.mk G
  have H := Aside.mk h
  obtain ⟨hv, d, ho⟩ := h.d
  have D := Aside.mk d
  have HO := Aside.mk ho
  have hb := h.b
  have hrd : Rd w hv hs := ((show OwnB 0 w hv hs from d.r)).rd
  have hDec := Aside.mk (decode_any hv hs w G.here.s hrd hb)
  have bT := dT_bounds hb
  have bF := dF_bounds hb
  have bL := dL_bounds hb
  have hCh := Aside.mk (fun W h => check_j (A := A) (p := p) (most := most) (hv := hv) (dp := .pointer none) (v := dV hs) (s := dS hs) bT.1 bT.2 bF.1 bL.1 bL.2 W h)
  obtain ⟨q, L, c, rfl⟩ : ∃ q L c, hv = .slice q L c := by obtain ⟨q, c, e⟩ := owns_val d.r; exact ⟨q, _, c, e⟩
  have c1 := d.c.cell 1
  simp at c1
  have hlen := Aside.mk hlen
  have hi := Aside.mk hi
  clear h d ho hb hrd bT bF bL G
  go_enter Tryz.func55, Tryz.ntmps55
  go_wp2_with (go_at_call 74; refine hDec.it.mono ?_; rintro e w1 ⟨ev, rfl, _, B1⟩; have K1 : Aside (Keeps Nowhere w w1) := ⟨Keeps.ofBelow B1⟩; have C1 := Aside.mk (D.it.c.later K1.it (fun x => x)); have f2 := (C1.it.spot 2 _ rfl).1; have f3 := (C1.it.spot 3 _ rfl).1; have f4 := (C1.it.spot 4 _ rfl).1; have f5 := (C1.it.spot 5 _ rfl).1; have f6 := (C1.it.spot 6 _ rfl).1; have z2 := C1.it.frozen 2; have z3 := C1.it.frozen 3; have z4 := C1.it.frozen 4; have z5 := C1.it.frozen 5; have z6 := C1.it.frozen 6; clear B1)
  clear f2 f3 f4 f5 f6 z2 z3 z4 z5 z6
  generalize hW2 : (((((w1.setCell ⟨p, 2, none⟩ (.int .u8 (dV hs))).setCell ⟨p, 3, none⟩ (.int .u8 (dT hs))).setCell ⟨p, 4, none⟩ (.int .u16 (dF hs))).setCell ⟨p, 5, none⟩ (.int .u32 (dS hs))).setCell ⟨p, 6, none⟩ (.int .u32 (dL hs))) = W2
  have X2 := head_set C1.it (owns_later D.it.r K1.it (fun _ _ x => x)) _ _ _ _ _ W2 hW2.symm
  have C2 := Aside.mk X2.1
  have O2 := Aside.mk X2.2.1
  have K2 : Aside (Keeps (fun k => own k = i) w W2) := ⟨(Keeps.any K1.it).next X2.2.2 (fun k e _ => e ▸ H.it.hp)⟩
  clear hW2 X2
  have J2 : Aside (JAt A p (decL most (.slice q L c) (dV hs) (dT hs) (dF hs) (dS hs) (dL hs) (.pointer none)) W2.drew) := by
    have B := (GG.it.step (own' := own) K2.it.drew hi.it (fun _ _ => rfl)).here
    exact ⟨B.s, B.l, C2.it⟩
  go_region_held_law (fun w' => w'.cell? ⟨p, 0, none⟩ = some (.int .i64 most) ∧ w'.cell? ⟨p, 1, none⟩ = some (.slice q L c) ∧ w'.cell? ⟨p, 2, none⟩ = some (.int .u8 (dV hs)) ∧ w'.cell? ⟨p, 3, none⟩ = some (.int .u8 (dT hs)) ∧ w'.cell? ⟨p, 4, none⟩ = some (.int .u16 (dF hs)) ∧ w'.cell? ⟨p, 5, none⟩ = some (.int .u32 (dS hs)) ∧ w'.cell? ⟨p, 6, none⟩ = some (.int .u32 (dL hs)) ∧ w'.cell? ⟨p, 7, none⟩ = some (.pointer none))
    (exact JAt.cells (by assumption))
    ((go_at_call 7; refine (hCh.it _ (by assumption)).mono ?_; rintro e w3 ⟨ev3, rfl, V3, J3, K3⟩))
  have K3' : Aside (Keeps (fun k => own k = i) w w3) := ⟨K2.it.drew.next K3.it (fun _ x _ => x.elim)⟩
  by_cases hz : chkH most hs = 0
  · have hck : Aside (ckH most hs = true) := ⟨decide_eq_true hz⟩
    obtain rfl : ev3 = .nilIface := by
      rcases V3.it with ⟨e, _⟩ | ⟨k, _, _, _, e⟩
      · exact e
      · have : chkH most hs = (k : Int) + 1 := e
        omega
    have E3 : Aside (∃ own', (∀ k, k < w.heap.size → own' k = own k) ∧ Keeps (fun k => own k = i) w w3 ∧ DecM own' i w3 p most hs hs) :=
      ⟨own, fun _ _ => rfl, K3'.it, ⟨H.it.hp, ⟨_, ⟨J3.it.c, owns_later O2.it (Keeps.any (K3.it)).undrew (fun _ _ x => x)⟩, HO.it⟩, H.it.b, H.it.b⟩⟩
    clear hz
    go_wp2_with fail
    go_ret
    rw [hck.it]
    obtain ⟨own', x1, x2, x3⟩ := E3.it
    exact ⟨rfl, ⟨own', x1, x2, .inl ⟨rfl, x3⟩⟩⟩
  · have hck : Aside (ckH most hs = false) := ⟨decide_eq_false hz⟩
    obtain ⟨k, hk, hk27, rfl, ek⟩ : ∃ k : Nat, k < 42 ∧ k ≠ 27 ∧ ev3 = .iface 204 (.pointer (some (A k))) ∧ chkH most hs = (k : Int) + 1 := by
      rcases V3.it with ⟨_, e⟩ | ⟨k, a, b, c', e⟩
      · exact absurd e hz
      · exact ⟨k, a, b, c', e⟩
    have KK := Aside.mk (And.intro hk (And.intro hk27 ek))
    have p5 := J3.it.c.cell 5
    have CA : ∀ ob, Cells (w3.alloc ob) p 96 _ := fun ob => J3.it.c.later ((Keeps.refl Nowhere w3).alloc ob) (fun x => x)
    have p1 := fun ob => (CA ob).cell 1
    have p7 := fun ob => (CA ob).cell 7
    have z1 := fun ob => (CA ob).frozen 1
    have z7 := fun ob => (CA ob).frozen 7
    clear CA
    simp at p5 p1 p7
    clear hz hk hk27 ek
    go_wp2_with fail
    go_ret
    rw [hck.it]
    obtain ⟨x1, x2⟩ := dead_end j H.it.hp H.it.lt K3'.it J3.it.c KK.it.1 KK.it.2.1 KK.it.2.2 _ rfl
    exact ⟨rfl, ⟨_, fun _ h => give_old h, x1, .inr ⟨rfl, x2⟩⟩⟩
end
end Go.Proofs.YtbbldkldgjmmgaaGreatDoor

/-
  package feed: letGo.
-/
namespace Go.Proofs.YtbbldkldgjmmgaaGreatDoor
open Go.RowKit

/-- a row of bytes that is j's -/
def DataO (own : Nat → Nat) (j : Nat) (w : World) (v : Value) (ns : List Int) : Prop := w.ownsRow 0 5 1 v ns.length (bv ns) ∧ ∀ k, v.ownBlock = some k → own k = j
abbrev frmH (h : List Int) (d : Value) : Value := frm (dV h) (dT h) (dF h) (dS h) (dL h) d
section
variable {A : Nat → Addr} {own : Nat → Nat} {i j : Nat} {w w' : World} {p : Nat} {most : Int} {hs g : List Int}
theorem go_end {w3 : World} {q : Option Addr} {l c : Nat} (h : DecM own i w p most hs g) (ms : List Int) (K : Keeps Nowhere w w3) (o : w3.ownsRow 0 5 1 (.slice q l c) ms.length (bv ms)) (hn : ∀ b, (Value.slice q l c).ownBlock = some b → w.heap.size ≤ b) (r : Nat) (hr : w.heap.size ≤ r) (W : World)
    (hW : Keeps (fun k => k = r) (w3.setCell ⟨p, 1, none⟩ (.slice none 0 0)) W) (hrb : ∀ b, (Value.slice q l c).ownBlock = some b → b ≠ r) :
    Keeps (fun k => own k = i) w W ∧ DecM (give own w.heap.size j) i W p most [] g ∧ DataO (give own w.heap.size j) j W (.slice q l c) ms := by
  obtain ⟨hv, d, ho⟩ := h.d
  have hpl := h.lt
  have C3 := d.c.later K (fun x => x)
  have C4 : Cells (w3.setCell ⟨p, 1, none⟩ (.slice none 0 0)) p 96 (decL most (.slice none 0 0) (dV g) (dT g) (dF g) (dS g) (dL g) (.pointer none)) := C3.setCell 1 _
  have K4 : Keeps (fun k => own k = i) w (w3.setCell ⟨p, 1, none⟩ (.slice none 0 0)) := (Keeps.any K).setCell ⟨p, 1, none⟩ _ (fun _ => h.hp)
  have KW : Keeps (fun k => own k = i) w W := K4.next hW (fun k e hk => by omega)
  have Kp : Keeps (fun k => k = p) w3 (w3.setCell ⟨p, 1, none⟩ (.slice none 0 0)) := (Keeps.refl (fun k => k = p) w3).setCell ⟨p, 1, none⟩ _ (fun _ => rfl)
  refine ⟨KW, ⟨by rw [give_old hpl]; exact h.hp, ⟨.slice none 0 0, ⟨C4.later hW (by omega), World.ownsRow_nil _ _ _ _⟩, fun k hk => by simp [Value.ownBlock] at hk⟩, fun n hn => by simp at hn, h.g⟩, ?_, fun k hk => give_new (hn k hk)⟩
  refine owns_later (owns_later o Kp (fun b hb e => ?_)) hW (fun b hb e => hrb b hb e)
  have := hn b hb
  omega
abbrev zeroF : List Value := [.int .u8 0, .int .u8 0, .int .u16 0, .int .u32 0, .int .u32 0, .slice none 0 0]
abbrev frmL (h : List Int) (d : Value) : List Value := [.int .u8 (dV h), .int .u8 (dT h), .int .u16 (dF h), .int .u32 (dS h), .int .u32 (dL h), d]
/-- where letGo's frame and its result's room lie -/
structure GoAt (w X : World) (F : Nat) (g : List Int) (q : Option Addr) (l c : Nat) (ms : List Int) : Prop where
  k : Keeps Nowhere w X
  f : Cells X F 34 (frmL g (.slice q l c))
  r : Cells X w.heap.size 34 zeroF
  o : X.ownsRow 0 5 1 (.slice q l c) ms.length (bv ms)
  b : ∀ b, (Value.slice q l c).ownBlock = some b → w.heap.size < b
  hF : w.heap.size < F
theorem six_set {W : World} {F : Nat} {cs : List Value} {e : TypeId} (h : Cells W F e cs) (hc : cs.length = 6) (a0 a1 a2 a3 a4 a5 : Value) :
    Cells ((((((W.setCell ⟨F, 0, none⟩ a0).setCell ⟨F, 1, none⟩ a1).setCell ⟨F, 2, none⟩ a2).setCell ⟨F, 3, none⟩ a3).setCell ⟨F, 4, none⟩ a4).setCell ⟨F, 5, none⟩ a5) F e [a0, a1, a2, a3, a4, a5] ∧
    Keeps (fun k => k = F) W ((((((W.setCell ⟨F, 0, none⟩ a0).setCell ⟨F, 1, none⟩ a1).setCell ⟨F, 2, none⟩ a2).setCell ⟨F, 3, none⟩ a3).setCell ⟨F, 4, none⟩ a4).setCell ⟨F, 5, none⟩ a5) := by
  obtain ⟨x0, x1, x2, x3, x4, x5, rfl⟩ : ∃ x0 x1 x2 x3 x4 x5, cs = [x0, x1, x2, x3, x4, x5] := by
    match cs, hc with
    | [x0, x1, x2, x3, x4, x5], _ => exact ⟨x0, x1, x2, x3, x4, x5, rfl⟩
  refine ⟨(((((h.setCell 0 a0).setCell 1 a1).setCell 2 a2).setCell 3 a3).setCell 4 a4).setCell 5 a5, ?_⟩
  exact ((((((Keeps.refl (fun k => k = F) W).setCell ⟨F, 0, none⟩ a0 (fun _ => rfl)).setCell ⟨F, 1, none⟩ a1 (fun _ => rfl)).setCell ⟨F, 2, none⟩ a2 (fun _ => rfl)).setCell ⟨F, 3, none⟩ a3 (fun _ => rfl)).setCell ⟨F, 4, none⟩ a4 (fun _ => rfl)).setCell ⟨F, 5, none⟩ a5 (fun _ => rfl)
theorem goAt_of {W : World} {F : Nat} {q : Option Addr} {l c : Nat} {ms : List Int} (hF : w.heap.size < F) (K : Keeps Nowhere w W) (f : Cells W F 34 zeroF) (r : Cells W w.heap.size 34 zeroF) (o : W.ownsRow 0 5 1 (.slice q l c) ms.length (bv ms)) (b : ∀ b, (Value.slice q l c).ownBlock = some b → w.heap.size < b) (X : World)
    (hX : X = ((((((W.setCell ⟨F, 0, none⟩ (.int .u8 (dV g))).setCell ⟨F, 1, none⟩ (.int .u8 (dT g))).setCell ⟨F, 2, none⟩ (.int .u16 (dF g))).setCell ⟨F, 3, none⟩ (.int .u32 (dS g))).setCell ⟨F, 4, none⟩ (.int .u32 (dL g))).setCell ⟨F, 5, none⟩ (.slice q l c))) : GoAt w X F g q l c ms := by
  obtain ⟨c1, k1⟩ := six_set f rfl (.int .u8 (dV g)) (.int .u8 (dT g)) (.int .u16 (dF g)) (.int .u32 (dS g)) (.int .u32 (dL g)) (.slice q l c)
  rw [← hX] at c1 k1
  have N := owns_ne o f (by decide)
  exact ⟨K.next k1 (fun k e hk => by omega), c1, r.later k1 (by omega), owns_later o k1 (fun b hb e => N (e ▸ hb)), b, hF⟩
theorem goAt_new {W : World} {q : Option Addr} {l c : Nat} {ms : List Int} (K : Keeps Nowhere w W) (r : Cells W w.heap.size 34 zeroF) (o : W.ownsRow 0 5 1 (.slice q l c) ms.length (bv ms)) (b : ∀ b, (Value.slice q l c).ownBlock = some b → w.heap.size < b) (X : World)
    (hX : X = W.alloc (.cells (frmL g (.slice q l c)).toArray 34)) : GoAt w X W.heap.size g q l c ms := by
  have k1 : Keeps Nowhere W X := by rw [hX]; exact (Keeps.refl _ _).alloc _
  have f : Cells X W.heap.size 34 (frmL g (.slice q l c)) := by rw [hX]; exact Cells.new _ _ _
  exact ⟨K.next k1 (fun _ e _ => e.elim), f, r.later k1 (fun e => e), owns_later o k1 (fun _ _ e => e), b, r.lt⟩
theorem res_cells {W w2 : World} {q : Option Addr} {l c : Nat} (hk : Keeps Nowhere (w.alloc (.cells zeroF.toArray 34)) W) (k2 : Keeps (fun b => (Value.slice none 0 0).ownBlock = some b) W w2) (b2 : ∀ b, (Value.slice q l c).ownBlock = some b → (Value.slice none 0 0).ownBlock = some b ∨ W.heap.size ≤ b) :
    Cells w2 w.heap.size 34 zeroF ∧ ∀ b, (Value.slice q l c).ownBlock = some b → w.heap.size < b := by
  refine ⟨((Cells.new w 34 zeroF).later hk (fun e => e)).later k2 (fun e => by cases e), fun b hb => ?_⟩
  rcases b2 b hb with e | e
  · cases e
  · have := hk.size
    simp at this
    omega
theorem GoAt.tail {X : World} {F : Nat} {q : Option Addr} {l c : Nat} {ms : List Int} (h : GoAt w X F g q l c ms) (hp : p < w.heap.size) :
    Cells (X.setCell ⟨p, 1, none⟩ (.slice none 0 0)) F 34 (frmL g (.slice q l c)) ∧ Cells (X.setCell ⟨p, 1, none⟩ (.slice none 0 0)) w.heap.size 34 zeroF := by
  have := h.hF
  exact ⟨h.f.setOther ⟨p, 1, none⟩ _ (by show F ≠ p; omega), h.r.setOther ⟨p, 1, none⟩ _ (by show w.heap.size ≠ p; omega)⟩
theorem go_endF {P Q R F : Prop} (h : P ∧ Q ∧ R) (hf : F) : P ∧ Q ∧ R ∧ F := ⟨h.1, h.2.1, h.2.2, hf⟩
set_option maxHeartbeats 4000000 in
theorem letGo_m (h : DecM own i w p most hs g) (h12 : 12 ≤ hs.length) (hlen : hs.length ≤ 4294967400) :
    Calls Tryz.prog 56 #[dPtr p] w fun e w' => ∃ q l c, e = .returned (frmH g (.slice q l c)) ∧ Aside (Keeps (fun k => own k = i) w w' ∧ DecM (give own w.heap.size j) i w' p most [] g ∧ DataO (give own w.heap.size j) j w' (.slice q l c) (hs.drop 12) ∧ ∀ b, (Value.slice q l c).ownBlock = some b → w.heap.size ≤ b) := by
  have H := Aside.mk h
  obtain ⟨hv, d, ho⟩ := h.d
  have D := Aside.mk d
  obtain ⟨gb, L, c, rfl⟩ : ∃ gb L c, hv = .slice (some ⟨gb, 0, none⟩) L c := by
    rcases d.r.2 with ⟨_, e⟩ | ⟨gb, cap, cur, e, _⟩
    · omega
    · exact ⟨gb, _, cap, e⟩
  have hL : Aside (L = hs.length) := ⟨by obtain ⟨q', c', e⟩ := owns_val d.r; injection e⟩
  have hLc : Aside (L ≤ c) := by
    have h' : w.ownsRow 0 5 1 (.slice (some ⟨gb, 0, none⟩) L c) (bv hs).length (bv hs) := by rw [bv_length]; exact d.r
    have := (owns_reads h').1.len
    exact ⟨by omega⟩
  have RT : ∀ W, Keeps Nowhere w W → Rd W (.slice (if c = 12 then some ⟨gb, 0, none⟩ else some ⟨gb, 12, none⟩) (L - 12) (c - 12)) (hs.drop 12) := fun W hk => by
    have h' : OwnB 0 w (.slice (some ⟨gb, 0, none⟩) L c) hs := d.r
    have r0 : RdS Nowhere W (.slice (some ⟨gb, 0, none⟩) L c) hs := ⟨((h'.rd.1.later (Keeps.any (S := Nowhere) hk)).mono (fun k e _ => e.elim)), h'.rd.2⟩
    have := (r0.drop h12).rd
    simpa [Addr.add] using this
  have RT := Aside.mk RT
  have CA : Aside (∀ W, Keeps Nowhere w W → Cells W p 96 (decL most (.slice (some ⟨gb, 0, none⟩) L c) (dV g) (dT g) (dF g) (dS g) (dL g) (.pointer none))) := ⟨fun W hk => d.c.later hk (fun x => x)⟩
  have h12 := Aside.mk h12
  have hlen := Aside.mk hlen
  have DC : Aside (∀ W, Keeps Nowhere w W → W.cell? ⟨p, 1, none⟩ = some (.slice (some ⟨gb, 0, none⟩) L c) ∧ W.cell? ⟨p, 2, none⟩ = some (.int .u8 (dV g)) ∧ W.cell? ⟨p, 3, none⟩ = some (.int .u8 (dT g)) ∧ W.cell? ⟨p, 4, none⟩ = some (.int .u16 (dF g)) ∧ W.cell? ⟨p, 5, none⟩ = some (.int .u32 (dS g)) ∧ W.cell? ⟨p, 6, none⟩ = some (.int .u32 (dL g))) :=
    ⟨fun W hk => ⟨(CA.it W hk).cell 1, (CA.it W hk).cell 2, (CA.it W hk).cell 3, (CA.it W hk).cell 4, (CA.it W hk).cell 5, (CA.it W hk).cell 6⟩⟩
  have l12 : 12 ≤ L := by have := h12.it; have := hL.it; omega
  have c12 : 12 ≤ c := by have := hLc.it; omega
  have l12' : (12 : Int) ≤ (L : Int) := by omega
  have hlc' : (L : Int) ≤ (c : Int) := by have := hLc.it; omega
  have NB : Aside (([] : List Int).length + (hs.drop 12).length ≤ 140737488355328) := ⟨by have := hlen.it; simp; omega⟩
  clear h d ho
  by_cases hc : c = 12
  · subst hc
    have RT : Aside (∀ W, Keeps Nowhere w W → Rd W (.slice (some ⟨gb, 0, none⟩) (L - 12) 0) (hs.drop 12)) := ⟨fun W hk => by simpa using RT.it W hk⟩
    have KA : ∀ ob, Keeps Nowhere w (w.alloc ob) := fun ob => (Keeps.refl _ _).alloc ob
    have KB : ∀ ob ob', Keeps Nowhere w ((w.alloc ob).alloc ob') := fun ob ob' => ((Keeps.refl _ _).alloc ob).alloc ob'
    have a1 := fun ob => (DC.it _ (KA ob)).1
    have a2 := fun ob => (DC.it _ (KA ob)).2.1
    have a3 := fun ob => (DC.it _ (KA ob)).2.2.1
    have a4 := fun ob => (DC.it _ (KA ob)).2.2.2.1
    have a5 := fun ob => (DC.it _ (KA ob)).2.2.2.2.1
    have a6 := fun ob => (DC.it _ (KA ob)).2.2.2.2.2
    have b1 := fun ob ob' => (DC.it _ (KB ob ob')).1
    have b2 := fun ob ob' => (DC.it _ (KB ob ob')).2.1
    have b3 := fun ob ob' => (DC.it _ (KB ob ob')).2.2.1
    have b4 := fun ob ob' => (DC.it _ (KB ob ob')).2.2.2.1
    have b5 := fun ob ob' => (DC.it _ (KB ob ob')).2.2.2.2.1
    have b6 := fun ob ob' => (DC.it _ (KB ob ob')).2.2.2.2.2
    have KA := Aside.mk KA
    have KB := Aside.mk KB
    have FN : Aside (Cells ((w.alloc (fbox 0 0 0 0 0 (.slice none 0 0))).alloc (fbox 0 0 0 0 0 (.slice none 0 0))).drew (w.heap.size + 1) 34 zeroF) := by
      have := Cells.new (w.alloc (fbox 0 0 0 0 0 (.slice none 0 0))) 34 zeroF
      rw [show (w.alloc (fbox 0 0 0 0 0 (.slice none 0 0))).heap.size = w.heap.size + 1 by simp] at this
      exact ⟨this⟩
    go_enter Tryz.func56, Tryz.ntmps56
    go_wp2_with fail
    go_region_law (first
      | (refine step_appendO 13 rfl rfl (.const (.slice none 0 0)) (.tmp 12) rfl (.slice none 0 0) _ [] (hs.drop 12) (World.ownsRow_nil _ _ _ _) (RT.it _ (KA.it _).drew) NB.it rfl rfl ?_; intro q2 l2 c2 w2 o2 k2 b2; have K2 : Aside (Keeps Nowhere w w2) := ⟨(KA.it _).drew.next k2.it (fun _ e _ => by cases e)⟩; have RN := Aside.mk (res_cells (Keeps.refl _ _).drew k2.it b2.it); have D2 := DC.it _ K2.it; have e1 := D2.1; have e2 := D2.2.1; have e3 := D2.2.2.1; have e4 := D2.2.2.2.1; have e5 := D2.2.2.2.2.1; have e6 := D2.2.2.2.2.2; have D3 := fun ob => DC.it _ (K2.it.alloc ob); have g1 := fun ob => (D3 ob).1; have g2 := fun ob => (D3 ob).2.1; have g3 := fun ob => (D3 ob).2.2.1; have g4 := fun ob => (D3 ob).2.2.2.1; have g5 := fun ob => (D3 ob).2.2.2.2.1; have g6 := fun ob => (D3 ob).2.2.2.2.2; clear D2 D3)
      | (refine step_appendO 13 rfl rfl (.const (.slice none 0 0)) (.tmp 12) rfl (.slice none 0 0) _ [] (hs.drop 12) (World.ownsRow_nil _ _ _ _) (RT.it _ (KB.it _ _).drew) NB.it rfl rfl ?_; intro q2 l2 c2 w2 o2 k2 b2; have K2 : Aside (Keeps Nowhere w w2) := ⟨(KB.it _ _).drew.next k2.it (fun _ e _ => by cases e)⟩; have RN := Aside.mk (res_cells (((Keeps.refl _ _).alloc _).drew) k2.it b2.it); have D2 := DC.it _ K2.it; have e1 := D2.1; have e2 := D2.2.1; have e3 := D2.2.2.1; have e4 := D2.2.2.2.1; have e5 := D2.2.2.2.2.1; have e6 := D2.2.2.2.2.2; have D3 := fun ob => DC.it _ (K2.it.alloc ob); have g1 := fun ob => (D3 ob).1; have g2 := fun ob => (D3 ob).2.1; have g3 := fun ob => (D3 ob).2.2.1; have g4 := fun ob => (D3 ob).2.2.2.1; have g5 := fun ob => (D3 ob).2.2.2.2.1; have g6 := fun ob => (D3 ob).2.2.2.2.2; clear D2 D3; have FC : Aside (Cells w2 (w.heap.size + 1) 34 zeroF) := ⟨FN.it.later k2.it (fun e => by cases e)⟩; have x0 := FC.it.cell 0; have x1 := FC.it.cell 1; have x2 := FC.it.cell 2; have x3 := FC.it.cell 3; have x4 := FC.it.cell 4; have x5 := FC.it.cell 5; have y0 := FC.it.frozen 0; have y1 := FC.it.frozen 1; have y2 := FC.it.frozen 2; have y3 := FC.it.frozen 3; have y4 := FC.it.frozen 4; have y5 := FC.it.frozen 5))
    all_goals (clear a1 a2 a3 a4 a5 a6 b1 b2 b3 b4 b5 b6 e1 e2 e3 e4 e5 e6 g1 g2 g3 g4 g5 g6)
    all_goals (first
      | (generalize hX : ((((((w2.setCell ⟨w.heap.size + 1, 0, none⟩ (.int .u8 (dV g))).setCell ⟨w.heap.size + 1, 1, none⟩ (.int .u8 (dT g))).setCell ⟨w.heap.size + 1, 2, none⟩ (.int .u16 (dF g))).setCell ⟨w.heap.size + 1, 3, none⟩ (.int .u32 (dS g))).setCell ⟨w.heap.size + 1, 4, none⟩ (.int .u32 (dL g))).setCell ⟨w.heap.size + 1, 5, none⟩ (.slice q2 l2 c2)) = X
         have GA := Aside.mk (goAt_of (g := g) (F := w.heap.size + 1) (by omega) K2.it FC.it RN.it.1 o2.it RN.it.2 X hX.symm)
         clear hX x0 x1 x2 x3 x4 x5 y0 y1 y2 y3 y4 y5
         generalize w.heap.size + 1 = F at *)
      | (generalize hX : (w2.alloc (.cells (frmL g (.slice q2 l2 c2)).toArray 34)) = X
         have GA := Aside.mk (goAt_new (g := g) K2.it RN.it.1 o2.it RN.it.2 X hX.symm)
         clear hX
         generalize w2.heap.size = F at *))
    all_goals (
      have P1 := (CA.it X GA.it.k).cell 1
      have Z1 := (CA.it X GA.it.k).frozen 1
      simp at P1
      have T := Aside.mk (GA.it.tail H.it.lt)
      have t0 := T.it.1.cell 0
      have t1 := T.it.1.cell 1
      have t2 := T.it.1.cell 2
      have t3 := T.it.1.cell 3
      have t4 := T.it.1.cell 4
      have t5 := T.it.1.cell 5
      have u0 := T.it.2.cell 0
      have u1 := T.it.2.cell 1
      have u2 := T.it.2.cell 2
      have u3 := T.it.2.cell 3
      have u4 := T.it.2.cell 4
      have u5 := T.it.2.cell 5
      have v0 := T.it.2.frozen 0
      have v1 := T.it.2.frozen 1
      have v2 := T.it.2.frozen 2
      have v3 := T.it.2.frozen 3
      have v4 := T.it.2.frozen 4
      have v5 := T.it.2.frozen 5
      simp only [List.getElem?_cons_zero, List.getElem?_cons_succ] at t0 t1 t2 t3 t4 t5 u0 u1 u2 u3 u4 u5
      go_wp2_with fail
      have S6 := Aside.mk (six_set T.it.2 rfl (.int .u8 (dV g)) (.int .u8 (dT g)) (.int .u16 (dF g)) (.int .u32 (dS g)) (.int .u32 (dL g)) (.slice q2 l2 c2))
      generalize hZ : (((((((X.setCell ⟨p, 1, none⟩ (.slice none 0 0)).setCell ⟨w.heap.size, 0, none⟩ (.int .u8 (dV g))).setCell ⟨w.heap.size, 1, none⟩ (.int .u8 (dT g))).setCell ⟨w.heap.size, 2, none⟩ (.int .u16 (dF g))).setCell ⟨w.heap.size, 3, none⟩ (.int .u32 (dS g))).setCell ⟨w.heap.size, 4, none⟩ (.int .u32 (dL g))).setCell ⟨w.heap.size, 5, none⟩ (.slice q2 l2 c2)) = Z at *
      clear hZ
      have s0 := S6.it.1.cell 0
      have s1 := S6.it.1.cell 1
      have s2 := S6.it.1.cell 2
      have s3 := S6.it.1.cell 3
      have s4 := S6.it.1.cell 4
      have s5 := S6.it.1.cell 5
      simp only [List.getElem?_cons_zero, List.getElem?_cons_succ] at s0 s1 s2 s3 s4 s5
      refine bodyPost_ret (v := frmH g (.slice q2 l2 c2)) (by simp [results, Tryz.results56, go_sem, s0, s1, s2, s3, s4, s5]) rfl ?_
      exact ⟨q2, l2, c2, rfl, ⟨go_endF (go_end H.it _ GA.it.k GA.it.o (fun b hb => Nat.le_of_lt (GA.it.b b hb)) w.heap.size (Nat.le_refl _) Z S6.it.2 (fun b hb => Nat.ne_of_gt (GA.it.b b hb))) (fun b hb => Nat.le_of_lt (GA.it.b b hb))⟩⟩)
  · simp only [if_neg hc] at RT
    have KA : ∀ ob, Keeps Nowhere w (w.alloc ob) := fun ob => (Keeps.refl _ _).alloc ob
    have KB : ∀ ob ob', Keeps Nowhere w ((w.alloc ob).alloc ob') := fun ob ob' => ((Keeps.refl _ _).alloc ob).alloc ob'
    have a1 := fun ob => (DC.it _ (KA ob)).1
    have a2 := fun ob => (DC.it _ (KA ob)).2.1
    have a3 := fun ob => (DC.it _ (KA ob)).2.2.1
    have a4 := fun ob => (DC.it _ (KA ob)).2.2.2.1
    have a5 := fun ob => (DC.it _ (KA ob)).2.2.2.2.1
    have a6 := fun ob => (DC.it _ (KA ob)).2.2.2.2.2
    have b1 := fun ob ob' => (DC.it _ (KB ob ob')).1
    have b2 := fun ob ob' => (DC.it _ (KB ob ob')).2.1
    have b3 := fun ob ob' => (DC.it _ (KB ob ob')).2.2.1
    have b4 := fun ob ob' => (DC.it _ (KB ob ob')).2.2.2.1
    have b5 := fun ob ob' => (DC.it _ (KB ob ob')).2.2.2.2.1
    have b6 := fun ob ob' => (DC.it _ (KB ob ob')).2.2.2.2.2
    have KA := Aside.mk KA
    have KB := Aside.mk KB
    have FN : Aside (Cells ((w.alloc (fbox 0 0 0 0 0 (.slice none 0 0))).alloc (fbox 0 0 0 0 0 (.slice none 0 0))).drew (w.heap.size + 1) 34 zeroF) := by
      have := Cells.new (w.alloc (fbox 0 0 0 0 0 (.slice none 0 0))) 34 zeroF
      rw [show (w.alloc (fbox 0 0 0 0 0 (.slice none 0 0))).heap.size = w.heap.size + 1 by simp] at this
      exact ⟨this⟩
    go_enter Tryz.func56, Tryz.ntmps56
    go_wp2_with fail
    go_region_law (first
      | (refine step_appendO 13 rfl rfl (.const (.slice none 0 0)) (.tmp 12) rfl (.slice none 0 0) _ [] (hs.drop 12) (World.ownsRow_nil _ _ _ _) (RT.it _ (KA.it _).drew) NB.it rfl rfl ?_; intro q2 l2 c2 w2 o2 k2 b2; have K2 : Aside (Keeps Nowhere w w2) := ⟨(KA.it _).drew.next k2.it (fun _ e _ => by cases e)⟩; have RN := Aside.mk (res_cells (Keeps.refl _ _).drew k2.it b2.it); have D2 := DC.it _ K2.it; have e1 := D2.1; have e2 := D2.2.1; have e3 := D2.2.2.1; have e4 := D2.2.2.2.1; have e5 := D2.2.2.2.2.1; have e6 := D2.2.2.2.2.2; have D3 := fun ob => DC.it _ (K2.it.alloc ob); have g1 := fun ob => (D3 ob).1; have g2 := fun ob => (D3 ob).2.1; have g3 := fun ob => (D3 ob).2.2.1; have g4 := fun ob => (D3 ob).2.2.2.1; have g5 := fun ob => (D3 ob).2.2.2.2.1; have g6 := fun ob => (D3 ob).2.2.2.2.2; clear D2 D3)
      | (refine step_appendO 13 rfl rfl (.const (.slice none 0 0)) (.tmp 12) rfl (.slice none 0 0) _ [] (hs.drop 12) (World.ownsRow_nil _ _ _ _) (RT.it _ (KB.it _ _).drew) NB.it rfl rfl ?_; intro q2 l2 c2 w2 o2 k2 b2; have K2 : Aside (Keeps Nowhere w w2) := ⟨(KB.it _ _).drew.next k2.it (fun _ e _ => by cases e)⟩; have RN := Aside.mk (res_cells (((Keeps.refl _ _).alloc _).drew) k2.it b2.it); have D2 := DC.it _ K2.it; have e1 := D2.1; have e2 := D2.2.1; have e3 := D2.2.2.1; have e4 := D2.2.2.2.1; have e5 := D2.2.2.2.2.1; have e6 := D2.2.2.2.2.2; have D3 := fun ob => DC.it _ (K2.it.alloc ob); have g1 := fun ob => (D3 ob).1; have g2 := fun ob => (D3 ob).2.1; have g3 := fun ob => (D3 ob).2.2.1; have g4 := fun ob => (D3 ob).2.2.2.1; have g5 := fun ob => (D3 ob).2.2.2.2.1; have g6 := fun ob => (D3 ob).2.2.2.2.2; clear D2 D3; have FC : Aside (Cells w2 (w.heap.size + 1) 34 zeroF) := ⟨FN.it.later k2.it (fun e => by cases e)⟩; have x0 := FC.it.cell 0; have x1 := FC.it.cell 1; have x2 := FC.it.cell 2; have x3 := FC.it.cell 3; have x4 := FC.it.cell 4; have x5 := FC.it.cell 5; have y0 := FC.it.frozen 0; have y1 := FC.it.frozen 1; have y2 := FC.it.frozen 2; have y3 := FC.it.frozen 3; have y4 := FC.it.frozen 4; have y5 := FC.it.frozen 5))
    all_goals (clear a1 a2 a3 a4 a5 a6 b1 b2 b3 b4 b5 b6 e1 e2 e3 e4 e5 e6 g1 g2 g3 g4 g5 g6)
    all_goals (first
      | (generalize hX : ((((((w2.setCell ⟨w.heap.size + 1, 0, none⟩ (.int .u8 (dV g))).setCell ⟨w.heap.size + 1, 1, none⟩ (.int .u8 (dT g))).setCell ⟨w.heap.size + 1, 2, none⟩ (.int .u16 (dF g))).setCell ⟨w.heap.size + 1, 3, none⟩ (.int .u32 (dS g))).setCell ⟨w.heap.size + 1, 4, none⟩ (.int .u32 (dL g))).setCell ⟨w.heap.size + 1, 5, none⟩ (.slice q2 l2 c2)) = X
         have GA := Aside.mk (goAt_of (g := g) (F := w.heap.size + 1) (by omega) K2.it FC.it RN.it.1 o2.it RN.it.2 X hX.symm)
         clear hX x0 x1 x2 x3 x4 x5 y0 y1 y2 y3 y4 y5
         generalize w.heap.size + 1 = F at *)
      | (generalize hX : (w2.alloc (.cells (frmL g (.slice q2 l2 c2)).toArray 34)) = X
         have GA := Aside.mk (goAt_new (g := g) K2.it RN.it.1 o2.it RN.it.2 X hX.symm)
         clear hX
         generalize w2.heap.size = F at *))
    all_goals (
      have P1 := (CA.it X GA.it.k).cell 1
      have Z1 := (CA.it X GA.it.k).frozen 1
      simp at P1
      have T := Aside.mk (GA.it.tail H.it.lt)
      have t0 := T.it.1.cell 0
      have t1 := T.it.1.cell 1
      have t2 := T.it.1.cell 2
      have t3 := T.it.1.cell 3
      have t4 := T.it.1.cell 4
      have t5 := T.it.1.cell 5
      have u0 := T.it.2.cell 0
      have u1 := T.it.2.cell 1
      have u2 := T.it.2.cell 2
      have u3 := T.it.2.cell 3
      have u4 := T.it.2.cell 4
      have u5 := T.it.2.cell 5
      have v0 := T.it.2.frozen 0
      have v1 := T.it.2.frozen 1
      have v2 := T.it.2.frozen 2
      have v3 := T.it.2.frozen 3
      have v4 := T.it.2.frozen 4
      have v5 := T.it.2.frozen 5
      simp only [List.getElem?_cons_zero, List.getElem?_cons_succ] at t0 t1 t2 t3 t4 t5 u0 u1 u2 u3 u4 u5
      go_wp2_with fail
      have S6 := Aside.mk (six_set T.it.2 rfl (.int .u8 (dV g)) (.int .u8 (dT g)) (.int .u16 (dF g)) (.int .u32 (dS g)) (.int .u32 (dL g)) (.slice q2 l2 c2))
      generalize hZ : (((((((X.setCell ⟨p, 1, none⟩ (.slice none 0 0)).setCell ⟨w.heap.size, 0, none⟩ (.int .u8 (dV g))).setCell ⟨w.heap.size, 1, none⟩ (.int .u8 (dT g))).setCell ⟨w.heap.size, 2, none⟩ (.int .u16 (dF g))).setCell ⟨w.heap.size, 3, none⟩ (.int .u32 (dS g))).setCell ⟨w.heap.size, 4, none⟩ (.int .u32 (dL g))).setCell ⟨w.heap.size, 5, none⟩ (.slice q2 l2 c2)) = Z at *
      clear hZ
      have s0 := S6.it.1.cell 0
      have s1 := S6.it.1.cell 1
      have s2 := S6.it.1.cell 2
      have s3 := S6.it.1.cell 3
      have s4 := S6.it.1.cell 4
      have s5 := S6.it.1.cell 5
      simp only [List.getElem?_cons_zero, List.getElem?_cons_succ] at s0 s1 s2 s3 s4 s5
      refine bodyPost_ret (v := frmH g (.slice q2 l2 c2)) (by simp [results, Tryz.results56, go_sem, s0, s1, s2, s3, s4, s5]) rfl ?_
      exact ⟨q2, l2, c2, rfl, ⟨go_endF (go_end H.it _ GA.it.k GA.it.o (fun b hb => Nat.le_of_lt (GA.it.b b hb)) w.heap.size (Nat.le_refl _) Z S6.it.2 (fun b hb => Nat.ne_of_gt (GA.it.b b hb))) (fun b hb => Nat.le_of_lt (GA.it.b b hb))⟩⟩)
end
end Go.Proofs.YtbbldkldgjmmgaaGreatDoor

