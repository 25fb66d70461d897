/-
  Bytes as frames: what a row of bytes says, whatever the cutting. Of whatever program.
-/
import Derived.WalkKit
namespace Go.Proofs.YtjhjhmhhnifgmaaDoor

/-- what bytes say: the frames (twelve bytes and a payload each), what is left, the header that may not be -/
structure Out where
  fs : List (List Int × List Int)
  rest : List Int
  dead : Option (List Int)

section
variable (ck : List Int → Bool) (sz : List Int → Nat)

def parse (ns : List Int) : Out :=
  if h12 : ns.length < 12 then ⟨[], ns, none⟩
  else if ck (ns.take 12) = false then ⟨[], [], some (ns.take 12)⟩
  else if ns.length < 12 + sz (ns.take 12) then ⟨[], ns, none⟩
  else
    let r := parse (ns.drop (12 + sz (ns.take 12)))
    ⟨(ns.take 12, (ns.drop 12).take (sz (ns.take 12))) :: r.fs, r.rest, r.dead⟩
termination_by ns.length
decreasing_by simp; omega

/-- what a decoder that lives may hold -/
def Live (hs : List Int) : Prop := hs.length < 12 ∨ (12 ≤ hs.length ∧ ck (hs.take 12) = true ∧ hs.length < 12 + sz (hs.take 12))
def wantsP (hs : List Int) : Nat := if hs.length < 12 then 12 - hs.length else 12 + sz (hs.take 12) - hs.length

variable {ck sz}
theorem parse_short {ns : List Int} (h : ns.length < 12) : parse ck sz ns = ⟨[], ns, none⟩ := by rw [parse, dif_pos h]
theorem parse_bad {ns : List Int} (h : 12 ≤ ns.length) (hc : ck (ns.take 12) = false) : parse ck sz ns = ⟨[], [], some (ns.take 12)⟩ := by
  rw [parse, dif_neg (by omega), if_pos hc]
theorem parse_part {ns : List Int} (h : 12 ≤ ns.length) (hc : ck (ns.take 12) = true) (hl : ns.length < 12 + sz (ns.take 12)) : parse ck sz ns = ⟨[], ns, none⟩ := by
  rw [parse, dif_neg (by omega), if_neg (by simp [hc]), if_pos hl]
theorem parse_more {ns : List Int} (h : 12 ≤ ns.length) (hc : ck (ns.take 12) = true) (hl : 12 + sz (ns.take 12) ≤ ns.length) :
    parse ck sz ns = ⟨(ns.take 12, (ns.drop 12).take (sz (ns.take 12))) :: (parse ck sz (ns.drop (12 + sz (ns.take 12)))).fs, (parse ck sz (ns.drop (12 + sz (ns.take 12)))).rest, (parse ck sz (ns.drop (12 + sz (ns.take 12)))).dead⟩ := by
  rw [parse, dif_neg (by omega), if_neg (by simp [hc]), if_neg (by omega)]
theorem Live.parse {hs : List Int} (h : Live ck sz hs) : Go.Proofs.YtjhjhmhhnifgmaaDoor.parse ck sz hs = ⟨[], hs, none⟩ := by
  rcases h with h | ⟨h, hc, hl⟩
  · exact parse_short h
  · exact parse_part h hc hl
theorem Live.nil : Live ck sz [] := .inl (by simp)
theorem Live.wants {hs : List Int} (h : Live ck sz hs) : 0 < wantsP sz hs := by
  unfold wantsP
  rcases h with h | ⟨h, hc, hl⟩
  · rw [if_pos h]; omega
  · rw [if_neg (by omega)]; omega
/-- a whole frame ahead -/
theorem parse_frame (h d bs : List Int) (hh : h.length = 12) (hc : ck h = true) (hd : d.length = sz h) : parse ck sz (h ++ d ++ bs) = ⟨(h, d) :: (parse ck sz bs).fs, (parse ck sz bs).rest, (parse ck sz bs).dead⟩ := by
  have ht : (h ++ d ++ bs).take 12 = h := by rw [List.append_assoc, ← hh, List.take_left]
  have hd1 : (h ++ d ++ bs).drop 12 = d ++ bs := by rw [List.append_assoc, ← hh, List.drop_left]
  have hd2 : (h ++ d ++ bs).drop (12 + sz h) = bs := by rw [← hh, ← hd, ← List.length_append, List.drop_left]
  have hd3 : (d ++ bs).take (sz h) = d := by rw [← hd, List.take_left]
  have := parse_more (ck := ck) (sz := sz) (ns := h ++ d ++ bs) (by simp; omega) (by rw [ht]; exact hc) (by rw [ht]; simp; omega)
  rw [ht, hd1, hd2, hd3] at this
  exact this
theorem parse_dead (h bs : List Int) (hh : h.length = 12) (hc : ck h = false) : parse ck sz (h ++ bs) = ⟨[], [], some h⟩ := by
  have ht : (h ++ bs).take 12 = h := by rw [← hh, List.take_left]
  have := parse_bad (ck := ck) (sz := sz) (ns := h ++ bs) (by simp; omega) (by rw [ht]; exact hc)
  rwa [ht] at this

/-- a frame that may be -/
def FrOk (ck : List Int → Bool) (sz : List Int → Nat) (x : List Int × List Int) : Prop := x.1.length = 12 ∧ ck x.1 = true ∧ x.2.length = sz x.1
def flat : List (List Int × List Int) → List Int
  | [] => []
  | x :: xs => x.1 ++ x.2 ++ flat xs
theorem flat_append : ∀ a b : List (List Int × List Int), flat (a ++ b) = flat a ++ flat b
  | [], b => rfl
  | x :: a, b => by simp [flat, flat_append a b]
theorem parse_flat : ∀ (fs : List (List Int × List Int)) (bs : List Int), (∀ x ∈ fs, FrOk ck sz x) → parse ck sz (flat fs ++ bs) = ⟨fs ++ (parse ck sz bs).fs, (parse ck sz bs).rest, (parse ck sz bs).dead⟩
  | [], bs, _ => by simp [flat]
  | x :: fs, bs, h => by
    obtain ⟨a, b, c⟩ := h x (by simp)
    have := parse_frame (ck := ck) (sz := sz) x.1 x.2 (flat fs ++ bs) a b c
    rw [parse_flat fs bs (fun y hy => h y (by simp [hy]))] at this
    simpa [flat] using this
/-- what the bytes are, by what they say -/
theorem parse_spec (ns : List Int) : (∀ x ∈ (parse ck sz ns).fs, FrOk ck sz x) ∧ (∀ n ∈ (parse ck sz ns).rest, n ∈ ns) ∧
    (((parse ck sz ns).dead = none ∧ Live ck sz (parse ck sz ns).rest ∧ ns = flat (parse ck sz ns).fs ++ (parse ck sz ns).rest) ∨
     ∃ h t, (parse ck sz ns).dead = some h ∧ (parse ck sz ns).rest = [] ∧ h.length = 12 ∧ ck h = false ∧ ns = flat (parse ck sz ns).fs ++ (h ++ t)) := by
  induction hn : ns.length using Nat.strongRecOn generalizing ns with
  | _ n ih =>
    by_cases h : ns.length < 12
    · rw [parse_short h]
      exact ⟨by simp, by simp, .inl ⟨rfl, .inl h, by simp [flat]⟩⟩
    have h12 : 12 ≤ ns.length := by omega
    cases hc : ck (ns.take 12) with
    | false =>
      rw [parse_bad h12 hc]
      exact ⟨by simp, by simp, .inr ⟨ns.take 12, ns.drop 12, rfl, rfl, by simp; omega, hc, by simp [flat]⟩⟩
    | true =>
      by_cases hl : ns.length < 12 + sz (ns.take 12)
      · rw [parse_part h12 hc hl]
        exact ⟨by simp, by simp, .inl ⟨rfl, .inr ⟨h12, hc, hl⟩, by simp [flat]⟩⟩
      · rw [parse_more h12 hc (by omega)]
        obtain ⟨i1, i2, i3⟩ := ih (ns.drop (12 + sz (ns.take 12))).length (by simp; omega) (ns.drop (12 + sz (ns.take 12))) rfl
        have e : ns = ns.take 12 ++ (ns.drop 12).take (sz (ns.take 12)) ++ ns.drop (12 + sz (ns.take 12)) := by
          rw [← List.drop_drop, List.append_assoc, List.take_append_drop, List.take_append_drop]
        refine ⟨?_, fun x hx => List.mem_of_mem_drop (i2 x hx), ?_⟩
        · intro x hx
          rcases List.mem_cons.1 hx with rfl | hx
          · exact ⟨by simp; omega, hc, by simp; omega⟩
          · exact i1 x hx
        · rcases i3 with ⟨a, b, c⟩ | ⟨h', t, a, b, c, d, e'⟩
          · refine .inl ⟨a, b, ?_⟩
            simp only [flat]
            rw [List.append_assoc, ← c]
            exact e
          · refine .inr ⟨h', t, a, b, c, d, ?_⟩
            simp only [flat]
            rw [List.append_assoc, ← e']
            exact e
theorem parse_ok (ns : List Int) : ∀ x ∈ (parse ck sz ns).fs, FrOk ck sz x := (parse_spec ns).1
theorem parse_rest (ns : List Int) (h : (parse ck sz ns).dead = none) : Live ck sz (parse ck sz ns).rest ∧ ns = flat (parse ck sz ns).fs ++ (parse ck sz ns).rest := by
  rcases (parse_spec (ck := ck) (sz := sz) ns).2.2 with ⟨_, a, b⟩ | ⟨h', t, a, _⟩
  · exact ⟨a, b⟩
  · rw [h] at a; cases a
theorem parse_died (ns h : List Int) (hd : (parse ck sz ns).dead = some h) : (parse ck sz ns).rest = [] ∧ h.length = 12 ∧ ck h = false ∧ ∃ t, ns = flat (parse ck sz ns).fs ++ (h ++ t) := by
  rcases (parse_spec (ck := ck) (sz := sz) ns).2.2 with ⟨a, _⟩ | ⟨h', t, a, b, c, d, e⟩
  · rw [hd] at a; cases a
  · rw [hd] at a; cases a; exact ⟨b, c, d, t, e⟩
/-- more bytes behind bytes that a decoder lives with -/
theorem parse_app (a b : List Int) (h : (parse ck sz a).dead = none) :
    parse ck sz (a ++ b) = ⟨(parse ck sz a).fs ++ (parse ck sz ((parse ck sz a).rest ++ b)).fs, (parse ck sz ((parse ck sz a).rest ++ b)).rest, (parse ck sz ((parse ck sz a).rest ++ b)).dead⟩ := by
  have e := (parse_rest a h).2
  have := parse_flat (ck := ck) (sz := sz) (parse ck sz a).fs ((parse ck sz a).rest ++ b) (parse_ok a)
  rw [← List.append_assoc, ← e] at this
  exact this
/-- more bytes behind bytes that it died of -/
theorem parse_app_dead (a b h : List Int) (hd : (parse ck sz a).dead = some h) : parse ck sz (a ++ b) = parse ck sz a := by
  obtain ⟨hr, hl, hc, t, e⟩ := parse_died a h hd
  have := parse_flat (ck := ck) (sz := sz) (parse ck sz a).fs (h ++ (t ++ b)) (parse_ok a)
  rw [parse_dead h (t ++ b) hl hc, ← List.append_assoc, ← List.append_assoc] at this
  have e2 : flat (parse ck sz a).fs ++ h ++ t = a := by rw [List.append_assoc]; exact e.symm
  rw [e2] at this
  rw [this]
  simp only [List.append_nil]
  have : parse ck sz a = ⟨(parse ck sz a).fs, (parse ck sz a).rest, (parse ck sz a).dead⟩ := rfl
  rw [this, hr, hd]
theorem flat_length (fs : List (List Int × List Int)) (h : ∀ x ∈ fs, FrOk ck sz x) : 12 * fs.length ≤ (flat fs).length := by
  induction fs with
  | nil => simp [flat]
  | cons x fs ih =>
    have := ih (fun y hy => h y (by simp [hy]))
    have := (h x (by simp)).1
    simp only [flat, List.length_cons, List.length_append]
    omega
theorem parse_count (ns : List Int) : 12 * (parse ck sz ns).fs.length ≤ ns.length := by
  have h := flat_length (ck := ck) (sz := sz) _ (parse_ok ns)
  rcases (parse_spec (ck := ck) (sz := sz) ns).2.2 with ⟨_, _, b⟩ | ⟨h', t, _, _, _, _, b⟩
  · have := congrArg List.length b
    rw [List.length_append] at this
    omega
  · have := congrArg List.length b
    rw [List.length_append] at this
    omega
end
end Go.Proofs.YtjhjhmhhnifgmaaDoor
