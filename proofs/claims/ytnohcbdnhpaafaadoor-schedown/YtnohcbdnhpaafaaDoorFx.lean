import Derived.Test.YtnohcbdnhpaafaaDoorScT
import Derived.Test.YtnohcbdnhpaafaaDoorSdx
import Derived.Test.YtnohcbdnhpaafaaDoorSwx
import Derived.Test.YtnohcbdnhpaafaaDoorLnR2
/-
  rings that go round, in lists; a ticket into an empty lane
-/
namespace Go.Proofs.YtnohcbdnhpaafaaDoor
open Go.RowKit

variable {A : Nat → Addr} {w w' w0 W : World} {own own' : Nat → Nat} {I : Nat → Prop} {s m : Nat} {L : List Tk} {ks T : List Nat} {av : Value}

def rotN (T : List Nat) (i : Nat) : List Nat := T.drop (i % T.length) ++ T.take (i % T.length)
theorem rotN_zero : rotN T 0 = T := by simp [rotN]
theorem rotN_end (i : Nat) : rotN T (i * T.length) = T := by simp [rotN]
theorem rotN_step (i : Nat) (h : T ≠ []) : ∃ k t, T[i % T.length]? = some k ∧ rotN T i = k :: t ∧ t ++ [k] = rotN T (i + 1) := by
  have h0 : 0 < T.length := List.length_pos_iff.2 h
  have hq : i % T.length < T.length := Nat.mod_lt _ h0
  have hk := List.getElem?_eq_getElem hq
  refine ⟨_, T.drop (i % T.length + 1) ++ T.take (i % T.length), hk, ?_, ?_⟩
  · unfold rotN
    rw [List.drop_eq_getElem_cons hq]
    rfl
  · have e1 : T.take (i % T.length) ++ [T[i % T.length]] = T.take (i % T.length + 1) := by rw [List.take_add_one, hk]; rfl
    rw [List.append_assoc, e1]
    unfold rotN
    by_cases h1 : i % T.length + 1 = T.length
    · have e2 : (i + 1) % T.length = 0 := by
        rw [Nat.add_mod, ← Nat.mod_mod i] 
        rcases Nat.lt_or_ge 1 T.length with h2 | h2
        · rw [Nat.mod_eq_of_lt h2, Nat.mod_mod, h1, Nat.mod_self]
        · have : T.length = 1 := by omega
          rw [this]; omega
      rw [e2, h1]
      simp
    · have e2 : (i + 1) % T.length = i % T.length + 1 := by
        rw [Nat.add_mod, Nat.mod_eq_of_lt (a := 1) (by omega)]
        exact Nat.mod_eq_of_lt (by omega)
      rw [e2]
theorem rotN_len (i : Nat) : (rotN T i).length = T.length := by
  unfold rotN
  rw [List.length_append, List.length_drop, List.length_take]
  by_cases h : T.length = 0
  · omega
  · have := Nat.mod_lt i (show 0 < T.length by omega)
    omega

theorem putL_new (t : Tk) (h : mayT t = 0) : putL [] t = ([t], 0) := by
  unfold putL
  rw [if_neg (by omega)]
  split <;> rfl
theorem putL_no (L : List Tk) (t : Tk) (h : mayT t ≠ 0) : putL L t = (L, mayT t) := by
  unfold putL
  rw [if_pos h]
theorem may_shF (t : Tk) (h : mayT t = 0) : shF t.k.toNat ≠ 0 := by
  unfold mayT at h
  split at h
  · cases h
  · rename_i hk
    have h1 : 1 ≤ t.k.toNat ∧ t.k.toNat ≤ 7 := by omega
    obtain ⟨n, hn⟩ : ∃ n, n = t.k.toNat := ⟨_, rfl⟩
    rw [← hn] at h1 ⊢
    obtain ⟨a, b⟩ := h1
    match n, a, b with
    | 1, _, _ => decide
    | 2, _, _ => decide
    | 3, _, _ => decide
    | 4, _, _ => decide
    | 5, _, _ => decide
    | 6, _, _ => decide
    | 7, _, _ => decide

theorem rdBo_nil {w : World} : RdBo w (.slice none 0 0) [] := ⟨none, 0, rfl, Nat.le_refl _, fun j u h => by simp at h⟩
/-- SchedFair's world: the scheduler, and the turns that it had -/
structure Fa (A : Nat → Addr) (w0 : World) (s m : Nat) (ks : List Nat) (av : Value) (T : List Nat) (own : Nat → Nat) (W : World) : Prop where
  sc : Sc A w0 own W s [] m ks
  tu : OwR own 10 W 27 1 av T.length (uv T)
theorem Fa.sn (h : Fa A w0 s m ks av T own w) (q : Sn I own w own' w') (h0 : ¬ I 0) (hi : ∀ k, In6 k → ¬ I k) (h10 : ¬ I 10) : Fa A w0 s m ks av T own' w' := ⟨h.sc.sn q h0 hi, h.tu.sn q h10⟩
theorem Fa.idle (h : Fa A w0 s m ks av T own w) (q : Sn (fun _ => False) own w own' w') : Fa A w0 s m ks av T own' w' := h.sn q (fun x => x) (fun _ _ x => x) (fun x => x)
theorem Fa.step {m' : Nat} {ks' : List Nat} (h : Fa A w0 s m ks av T own w) (q : Sn I own w own' w') (h10 : ¬ I 10) (hs : Sc A w0 own' w' s [] m' ks') : Fa A w0 s m' ks' av T own' w' := ⟨hs, h.tu.sn q h10⟩
end Go.Proofs.YtnohcbdnhpaafaaDoor

/-
  SchedFirst's world
-/
namespace Go.Proofs.YtnohcbdnhpaafaaDoor
open Go.RowKit

variable {A : Nat → Addr} {w w' w0 W : World} {own own' : Nat → Nat} {I : Nat → Prop} {s m m' : Nat} {L L' L0 : List Tk} {ks ks' T : List Nat} {tv av : Value}

set_option maxRecDepth 100000 in
theorem hd_neq13 (w : World) (v v2 t t2 f f2 s s2 l l2 : Int) : (binOp .neq 43 (.agg #[.int .u8 v, .int .u8 t, .int .u16 f, .int .u32 s, .int .u32 l]) (.agg #[.int .u8 v2, .int .u8 t2, .int .u16 f2, .int .u32 s2, .int .u32 l2])).run Tryd.prog w = .ok (.bool (!decide (v = v2 ∧ t = t2 ∧ f = f2 ∧ s = s2 ∧ l = l2))) w := by
  have hst : Tryd.prog.stoodInHeld 43 = false := by kernel_rfl
  have hfo : Tryd.prog.underlying 43 = some (.struct (Tryd.prog.fieldsOf 43)) := by kernel_rfl
  have h := run_equalIn_agg (P := Tryd.prog) (w := w) 9999 43 #[.int .u8 v, .int .u8 t, .int .u16 f, .int .u32 s, .int .u32 l] #[.int .u8 v2, .int .u8 t2, .int .u16 f2, .int .u32 s2, .int .u32 l2] hfo hst
  rw [run_neq_struct, h]
  clear h hst hfo
  simp only [Program.fieldsOf, Tryd.underlying43]
  by_cases e0 : v = v2
  · by_cases e1 : t = t2
    · by_cases e2 : f = f2
      · by_cases e3 : s = s2
        · by_cases e4 : l = l2
          · simp [Op.eqFields, go_sem, e0, e1, e2, e3, e4]
          · simp [Op.eqFields, go_sem, e0, e1, e2, e3, e4]
        · simp [Op.eqFields, go_sem, e0, e1, e2, e3]
      · simp [Op.eqFields, go_sem, e0, e1, e2]
    · simp [Op.eqFields, go_sem, e0, e1]
  · simp [Op.eqFields, go_sem, e0]
abbrev hd5v (t : Tk) : Value := .agg #[.int .u8 0, .int .u8 (shF t.k.toNat), .int .u16 (shG t.k.toNat), .int .u32 t.s, .int .u32 t.v]
theorem frameR_ok (t : Tk) (h0 : mayT t = 0) : Calls Tryd.prog 14 #[tkv t.k t.s t.v] w fun e w' => e = .returned (.tuple #[hd5v t, .int .i64 0]) ∧ Aside (Keeps Nowhere w w') := by
  refine (frameR t).mono ?_
  rintro e w' ⟨rfl, k⟩
  refine ⟨?_, k⟩
  unfold hd5
  rw [if_pos h0, h0]
  rfl
/-- the scheduler, and what it showed -/
structure Fi (A : Nat → Addr) (w0 : World) (s : Nat) (L : List Tk) (m : Nat) (ks : List Nat) (tv : Value) (L0 : List Tk) (av : Value) (T : List Nat) (own : Nat → Nat) (W : World) : Prop where
  sc : Sc A w0 own W s L m ks
  ti : OwR own 12 W 29 3 tv L0.length (flatT L0)
  tu : OwR own 10 W 27 1 av T.length (uv T)
theorem Fi.idle (h : Fi A w0 s L m ks tv L0 av T own w) (q : Sn (fun _ => False) own w own' w') : Fi A w0 s L m ks tv L0 av T own' w' := ⟨h.sc.sn q (fun x => x) (fun _ _ x => x), h.ti.sn q (fun x => x), h.tu.sn q (fun x => x)⟩
theorem Fi.step (h : Fi A w0 s L m ks tv L0 av T own w) (q : Sn I own w own' w') (h10 : ¬ I 10) (h12 : ¬ I 12) (hs : Sc A w0 own' w' s L' m' ks') : Fi A w0 s L' m' ks' tv L0 av T own' w' := ⟨hs, h.ti.sn q h12, h.tu.sn q h10⟩
theorem addL_len (ks : List Nat) (k : Nat) : (addL ks k).length ≤ ks.length + 1 := by
  unfold addL
  split
  · omega
  · simp
theorem Sc.bel (h : Sc A w0 own w s L m ks) : Below w0.heap.size w0 w := by
  obtain ⟨p, r, h⟩ := h
  exact h.ln.g.g.bel
theorem Sc.g (h : Sc A w0 own w s L m ks) : Ground w0.heap.size w0 own w := by
  obtain ⟨p, r, h⟩ := h
  exact h.ln.g.g
theorem Sc.may (h : Sc A w0 own w s L m ks) : ∀ t ∈ L, mayT t = 0 ∧ t.Wide := by
  obtain ⟨p, r, h⟩ := h
  exact h.ln.ok
end Go.Proofs.YtnohcbdnhpaafaaDoor

