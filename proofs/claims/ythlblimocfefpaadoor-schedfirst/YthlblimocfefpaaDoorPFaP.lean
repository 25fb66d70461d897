/-
  rings that go round, in lists; a ticket into an empty lane
-/
import Derived.Test.YthlblimocfefpaaDoorPScT
import Derived.Test.YthlblimocfefpaaDoorSdx
import Derived.Test.YthlblimocfefpaaDoorSwx
namespace Go.Proofs.YthlblimocfefpaaDoor
open Go.RowKit

variable {A : Nat → Addr} {w w' w0 W : World} {own own' : Nat → Nat} {I : Nat → Prop} {s m : Nat} {L : List Tk} {ks T : List Nat} {av : Value}

def rotN (T : List Nat) (i : Nat) : List Nat := T.drop (i % T.length) ++ T.take (i % T.length)
theorem rotN_zero : rotN T 0 = T := by simp [rotN]
theorem rotN_end (i : Nat) : rotN T (i * T.length) = T := by simp [rotN]
theorem rotN_step (i : Nat) (h : T ≠ []) : ∃ k t, T[i % T.length]? = some k ∧ rotN T i = k :: t ∧ t ++ [k] = rotN T (i + 1) := by
  have h0 : 0 < T.length := List.length_pos_iff.2 h
  have hq : i % T.length < T.length := Nat.mod_lt _ h0
  have hk := List.getElem?_eq_getElem hq
  refine ⟨_, T.drop (i % T.length + 1) ++ T.take (i % T.length), hk, ?_, ?_⟩
  · unfold rotN
    rw [List.drop_eq_getElem_cons hq]
    rfl
  · have e1 : T.take (i % T.length) ++ [T[i % T.length]] = T.take (i % T.length + 1) := by rw [List.take_add_one, hk]; rfl
    rw [List.append_assoc, e1]
    unfold rotN
    by_cases h1 : i % T.length + 1 = T.length
    · have e2 : (i + 1) % T.length = 0 := by
        rw [Nat.add_mod, ← Nat.mod_mod i] 
        rcases Nat.lt_or_ge 1 T.length with h2 | h2
        · rw [Nat.mod_eq_of_lt h2, Nat.mod_mod, h1, Nat.mod_self]
        · have : T.length = 1 := by omega
          rw [this]; omega
      rw [e2, h1]
      simp
    · have e2 : (i + 1) % T.length = i % T.length + 1 := by
        rw [Nat.add_mod, Nat.mod_eq_of_lt (a := 1) (by omega)]
        exact Nat.mod_eq_of_lt (by omega)
      rw [e2]
theorem rotN_len (i : Nat) : (rotN T i).length = T.length := by
  unfold rotN
  rw [List.length_append, List.length_drop, List.length_take]
  by_cases h : T.length = 0
  · omega
  · have := Nat.mod_lt i (show 0 < T.length by omega)
    omega

theorem putL_new (t : Tk) (h : mayT t = 0) : putL [] t = ([t], 0) := by
  unfold putL
  rw [if_neg (by omega)]
  split <;> rfl
theorem putL_no (L : List Tk) (t : Tk) (h : mayT t ≠ 0) : putL L t = (L, mayT t) := by
  unfold putL
  rw [if_pos h]
theorem may_shF (t : Tk) (h : mayT t = 0) : shF t.k.toNat ≠ 0 := by
  unfold mayT at h
  split at h
  · cases h
  · rename_i hk
    have h1 : 1 ≤ t.k.toNat ∧ t.k.toNat ≤ 7 := by omega
    obtain ⟨n, hn⟩ : ∃ n, n = t.k.toNat := ⟨_, rfl⟩
    rw [← hn] at h1 ⊢
    obtain ⟨a, b⟩ := h1
    match n, a, b with
    | 1, _, _ => decide
    | 2, _, _ => decide
    | 3, _, _ => decide
    | 4, _, _ => decide
    | 5, _, _ => decide
    | 6, _, _ => decide
    | 7, _, _ => decide

theorem rdBo_nil {w : World} : RdBo w (.slice none 0 0) [] := ⟨none, 0, rfl, Nat.le_refl _, fun j u h => by simp at h⟩
/-- SchedFair's world: the scheduler, and the turns that it had -/
structure Fa (A : Nat → Addr) (w0 : World) (s m : Nat) (ks : List Nat) (av : Value) (T : List Nat) (own : Nat → Nat) (W : World) : Prop where
  sc : Sc A w0 own W s [] m ks
  tu : OwR own 10 W 27 1 av T.length (uv T)
theorem Fa.sn (h : Fa A w0 s m ks av T own w) (q : Sn I own w own' w') (h0 : ¬ I 0) (hi : ∀ k, In6 k → ¬ I k) (h10 : ¬ I 10) : Fa A w0 s m ks av T own' w' := ⟨h.sc.sn q h0 hi, h.tu.sn q h10⟩
theorem Fa.idle (h : Fa A w0 s m ks av T own w) (q : Sn (fun _ => False) own w own' w') : Fa A w0 s m ks av T own' w' := h.sn q (fun x => x) (fun _ _ x => x) (fun x => x)
theorem Fa.step {m' : Nat} {ks' : List Nat} (h : Fa A w0 s m ks av T own w) (q : Sn I own w own' w') (h10 : ¬ I 10) (hs : Sc A w0 own' w' s [] m' ks') : Fa A w0 s m' ks' av T own' w' := ⟨hs, h.tu.sn q h10⟩
end Go.Proofs.YthlblimocfefpaaDoor
