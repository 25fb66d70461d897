/-
  a lane's Count; lists with one thing less
-/
import Derived.Test.YtmjnnpbhklfcbaaGreatDoorLnX
import Derived.Test.YtmjnnpbhklfcbaaGreatDoorLnC2
import Derived.Test.YtmjnnpbhklfcbaaGreatDoorRlx
namespace Go.Proofs.YtmjnnpbhklfcbaaGreatDoor
open Go.RowKit

variable {A : Nat → Addr} {w w' w0 : World} {own own' : Nat → Nat} {p m : Nat} {L : List Tk} {I : Nat → Prop} {vm : Value}

theorem countX (h : Ln A w0 own w p L m) (hm : m ≤ 8796093022208) (kind : Int) : Calls Tryz.prog 60 #[ptr p, .int .i64 kind] w fun e w' => e = .returned (.int .i64 (cntK kind L)) ∧ Aside (Keeps Nowhere w w') := by
  obtain ⟨Z, h1, rfl⟩ := h.l
  exact count_at h1 hm kind
theorem nextE' (h : Ln A w0 own w p [] m) : Calls Tryz.prog 36 #[ptr p] w fun e w' => e = .returned (.tuple #[tkv 0 0 0, .bool false]) ∧ Aside (Keeps Nowhere w w') ∧ Aside (Ln A w0 own w' p [] m) := by
  obtain ⟨Z, h1, h2⟩ := h.l
  obtain rfl : Z = [] := by simpa using h2
  refine (next_empty h1).mono ?_
  rintro e w' ⟨rfl, k⟩
  exact ⟨rfl, ⟨k⟩, ⟨h.quiet k⟩⟩
theorem Ln.pair (h : Ln A w0 own w p L m) : L.Pairwise (fun x y => x.k = y.k → x.s = y.s → ¬ Single x.k) := by
  obtain ⟨Z, ⟨fp, mb, F, h1⟩, rfl⟩ := h.l
  exact List.pairwise_map.2 h1.ok.uniq
theorem Ln.wideL (h : Ln A w0 own w p L m) : ∀ t ∈ L, t.Wide := by
  obtain ⟨Z, ⟨fp, mb, F, h1⟩, rfl⟩ := h.l
  intro t ht
  obtain ⟨x, hx, rfl⟩ := List.mem_map.1 ht
  exact (h1.ok.may x hx).2
theorem erase_none (L : List Tk) (f : Tk → Bool) (h : L.findIdx? f = none) : L.eraseP f = L ∧ L.any f = false := by
  rw [List.findIdx?_eq_none_iff] at h
  exact ⟨List.eraseP_of_forall_not (fun x hx => by rw [h x hx]; simp), List.any_eq_false.2 (fun x hx => by rw [h x hx]; simp)⟩
theorem erase_none2 (L : List Tk) (f : Tk → Bool) (h : L.any f = false) : L.eraseP f = L := List.eraseP_of_forall_not (fun x hx => List.any_eq_false.1 h x hx)
theorem erase_some (L : List Tk) (f : Tk → Bool) (i : Nat) (h : L.findIdx? f = some i) : L.eraseP f = L.take i ++ L.drop (i + 1) ∧ L.any f = true ∧ i < L.length := by
  induction L generalizing i with
  | nil => simp at h
  | cons x L ih =>
    rw [List.findIdx?_cons] at h
    cases hx : f x with
    | true =>
      rw [hx] at h
      simp only [if_true, Option.some.injEq] at h
      subst h
      refine ⟨by rw [List.eraseP_cons_of_pos hx]; rfl, by rw [List.any_cons, hx, Bool.true_or], by simp⟩
    | false =>
      rw [hx] at h
      cases hf : L.findIdx? f with
      | none => rw [hf] at h; simp at h
      | some j =>
        rw [hf] at h
        simp at h
        subst h
        obtain ⟨a, b, c⟩ := ih j hf
        refine ⟨?_, by rw [List.any_cons, hx, b, Bool.false_or], by simp only [List.length_cons]; omega⟩
        rw [List.eraseP_cons_of_neg (by rw [hx]; simp), a]
        rfl
end Go.Proofs.YtmjnnpbhklfcbaaGreatDoor
