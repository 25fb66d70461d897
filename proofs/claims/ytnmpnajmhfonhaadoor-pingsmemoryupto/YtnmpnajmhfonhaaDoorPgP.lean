/-
  package pings in numbers and lists (of whatever program)
-/
import Derived.Test.YtnmpnajmhfonhaaDoorTbP
namespace Go.Proofs.YtnmpnajmhfonhaaDoor

/-- the most (0: nil), the token that was asked last, the waiting by number, the answered, the owed -/
structure Pm where
  most : Nat
  last : Nat
  L : Tl Unit
  an : List Nat
  ow : List Nat
def Pm.zero : Pm := ⟨0, 0, [], [], []⟩
def Pm.new (most : Nat) : Pm := ⟨most, 0, [], [], []⟩
def tins (L : Tl Unit) (k : Nat) : Tl Unit := if (tlook L k).isSome then L else tput L k ()
def Pm.tok (m : Pm) : Nat := (m.last + 1) % 4294967296
def Pm.askC (m : Pm) : Int := if m.most = 0 then 1 else if m.most ≤ m.L.length then 31 else 0
def Pm.askT (m : Pm) : Nat := if m.most ≤ m.L.length then 0 else m.tok
def Pm.ask (m : Pm) : Pm := if m.most ≤ m.L.length then m else { m with last := m.tok, L := tins m.L m.tok }
def Pm.heardC (m : Pm) (t : Nat) : Int := if m.most = 0 then 1 else if (tlook m.L t).isSome then 0 else 22
def Pm.heard (m : Pm) (t : Nat) : Pm := if (tlook m.L t).isSome then { m with L := tdel m.L t, an := m.an ++ [t] } else m
def Pm.told (m : Pm) : Pm := { m with an := [] }
def Pm.askedC (m : Pm) : Int := if m.most = 0 then 1 else if m.most ≤ m.ow.length then 21 else 0
def Pm.asked (m : Pm) (t : Nat) : Pm := if m.most ≤ m.ow.length then m else { m with ow := m.ow ++ [t] }
def Pm.repl (m : Pm) : Pm := { m with ow := m.ow.tail }

/-- what holds of every Pings -/
structure Pm.Ok (m : Pm) : Prop where
  top : m.most ≤ 1024
  lst : m.last ≤ 4294967295
  up : Up m.L
  wl : m.L.length ≤ m.most
  ol : m.ow.length ≤ m.most
theorem Pm.zero_ok : Pm.zero.Ok := ⟨by decide, by decide, Up.nil, by decide, by decide⟩
theorem Pm.new_ok {n : Nat} (h : n ≤ 1024) : (Pm.new n).Ok := ⟨h, by simp [Pm.new], Up.nil, by simp [Pm.new], by simp [Pm.new]⟩
theorem tok_le (m : Pm) : m.tok ≤ 4294967295 := by unfold Pm.tok; omega
theorem up_tins {L : Tl Unit} (h : Up L) {k : Nat} (hk : k ≤ 4294967295) : Up (tins L k) := by
  unfold tins
  split
  · exact h
  · rename_i hx
    exact up_tput h () (by simpa using hx) hk
theorem len_tins (L : Tl Unit) (k : Nat) : (tins L k).length ≤ L.length + 1 := by
  unfold tins
  split
  · omega
  · rw [len_tput]; exact Nat.le_refl _
theorem tins_at (L : Tl Unit) (k k' : Nat) : tlook (tins L k) k' = if k' = k then some () else tlook L k' := by
  unfold tins
  split
  · rename_i h
    split
    · rename_i e
      subst e
      cases hl : tlook L k' with
      | none => rw [hl] at h; cases h
      | some v => rfl
    · rfl
  · rename_i h
    exact tlook_tput () (by simpa using h) k'
theorem Pm.Ok.ask {m : Pm} (h : m.Ok) : m.ask.Ok := by
  unfold Pm.ask
  split
  · exact h
  · rename_i hx
    have := len_tins m.L m.tok
    exact ⟨h.top, tok_le m, up_tins h.up (tok_le m), by simp only; omega, h.ol⟩
theorem Pm.Ok.heard {m : Pm} (h : m.Ok) (t : Nat) : (m.heard t).Ok := by
  unfold Pm.heard
  split
  · rename_i hx
    obtain ⟨v, hv⟩ := Option.isSome_iff_exists.1 hx
    have := len_tdel h.up hv
    exact ⟨h.top, h.lst, up_tdel h.up t, by have := h.wl; simp only; omega, h.ol⟩
  · exact h
theorem Pm.Ok.told {m : Pm} (h : m.Ok) : m.told.Ok := ⟨h.top, h.lst, h.up, h.wl, h.ol⟩
theorem Pm.Ok.asked {m : Pm} (h : m.Ok) (t : Nat) : (m.asked t).Ok := by
  unfold Pm.asked
  split
  · exact h
  · exact ⟨h.top, h.lst, h.up, h.wl, by simp only [List.length_append, List.length_cons, List.length_nil]; omega⟩
theorem Pm.Ok.repl {m : Pm} (h : m.Ok) : m.repl.Ok := ⟨h.top, h.lst, h.up, h.wl, by have := h.ol; simp only [Pm.repl, List.length_tail]; omega⟩

/-- a token above all: it stands at the end -/
theorem ks_tput_top (L : Tl Unit) (k : Nat) (h : ∀ x ∈ ks L, x < k) : ks (tput L k ()) = ks L ++ [k] := by
  induction L with
  | nil => rfl
  | cons x L ih =>
    have hx : x.1 < k := h x.1 (.head _)
    unfold tput
    rw [if_pos hx]
    simp only [ks, List.map_cons, List.cons_append]
    congr 1
    exact ih (fun y hy => h y (.tail _ hy))
theorem ks_tdel (L : Tl Unit) (k : Nat) : ks (tdel L k) = (ks L).filter (fun x => x != k) := by
  unfold ks tdel
  rw [List.filter_map]
  rfl
theorem look_mem (L : Tl Unit) (k : Nat) : (tlook L k).isSome = decide (k ∈ ks L) := by
  cases h : tlook L k with
  | none => simp [tlook_none_iff.1 h]
  | some v =>
    have : k ∈ ks L := List.mem_map.2 ⟨_, tlook_some h, rfl⟩
    simp [this]
/-- the tokens are those that were asked: none above the last -/
structure Pm.Fr (m : Pm) : Prop where
  ok : m.Ok
  below : ∀ x ∈ ks m.L, x ≤ m.last
theorem Pm.Fr.tok {m : Pm} (_h : m.Fr) (hb : m.last < 4294967295) : m.tok = m.last + 1 := by unfold Pm.tok; omega
theorem Pm.Fr.fresh {m : Pm} (h : m.Fr) (hb : m.last < 4294967295) : (tlook m.L m.tok).isSome = false := by
  rw [look_mem]
  simp only [decide_eq_false_iff_not]
  intro hm
  have := h.below _ hm
  rw [h.tok hb] at this
  omega
theorem Pm.Fr.ask_ks {m : Pm} (h : m.Fr) (hb : m.last < 4294967295) (hn : ¬ m.most ≤ m.L.length) : ks m.ask.L = ks m.L ++ [m.last + 1] := by
  unfold Pm.ask
  rw [if_neg hn]
  simp only [tins, h.fresh hb, Bool.false_eq_true, if_false]
  rw [ks_tput_top _ _ (fun x hx => by have := h.below x hx; rw [h.tok hb]; omega), h.tok hb]
theorem Pm.Fr.ask {m : Pm} (h : m.Fr) (hb : m.last < 4294967295) : m.ask.Fr := by
  refine ⟨h.ok.ask, ?_⟩
  by_cases hn : m.most ≤ m.L.length
  · unfold Pm.ask
    rw [if_pos hn]
    exact h.below
  · intro x hx
    rw [h.ask_ks hb hn] at hx
    have e : m.ask.last = m.last + 1 := by
      unfold Pm.ask
      rw [if_neg hn]
      exact h.tok hb
    rw [e]
    rcases List.mem_append.1 hx with hx | hx
    · have := h.below x hx
      omega
    · have := List.mem_singleton.1 hx
      omega
theorem Pm.Fr.heard {m : Pm} (h : m.Fr) (t : Nat) : (m.heard t).Fr := by
  refine ⟨h.ok.heard t, ?_⟩
  unfold Pm.heard
  split
  · intro x hx
    rw [ks_tdel] at hx
    exact h.below x (List.mem_filter.1 hx).1
  · exact h.below
theorem Pm.Fr.told {m : Pm} (h : m.Fr) : m.told.Fr := ⟨h.ok.told, h.below⟩
theorem Pm.Fr.asked {m : Pm} (h : m.Fr) (t : Nat) : (m.asked t).Fr := by
  refine ⟨h.ok.asked t, ?_⟩
  unfold Pm.asked
  split
  · exact h.below
  · exact h.below
theorem Pm.Fr.repl {m : Pm} (h : m.Fr) : m.repl.Fr := ⟨h.ok.repl, h.below⟩
theorem Pm.last_ask (m : Pm) (hb : m.last < 4294967295) : m.ask.last ≤ m.last + 1 := by
  unfold Pm.ask
  split
  · omega
  · simp only [Pm.tok]; omega
theorem Pm.last_heard (m : Pm) (t : Nat) : (m.heard t).last = m.last := by unfold Pm.heard; split <;> rfl
theorem Pm.last_asked (m : Pm) (t : Nat) : (m.asked t).last = m.last := by unfold Pm.asked; split <;> rfl
theorem Pm.most_ask (m : Pm) : m.ask.most = m.most := by unfold Pm.ask; split <;> rfl
theorem Pm.most_heard (m : Pm) (t : Nat) : (m.heard t).most = m.most := by unfold Pm.heard; split <;> rfl
theorem Pm.most_asked (m : Pm) (t : Nat) : (m.asked t).most = m.most := by unfold Pm.asked; split <;> rfl
theorem ks_nodup {L : Tl Unit} (h : Up L) : (ks L).Nodup := h.p.imp (fun h => by omega)
end Go.Proofs.YtnmpnajmhfonhaaDoor
