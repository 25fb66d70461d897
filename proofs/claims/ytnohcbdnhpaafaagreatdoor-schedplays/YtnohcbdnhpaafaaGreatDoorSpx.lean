import Derived.Test.YtnohcbdnhpaafaaGreatDoorRlx
import Derived.Test.YtnohcbdnhpaafaaGreatDoorSdx
import Derived.Test.YtnohcbdnhpaafaaGreatDoorScT
import Derived.Test.YtnohcbdnhpaafaaGreatDoorRbP
import Derived.Deep.DeepCutAuto
import Derived.Test.YtnohcbdnhpaafaaGreatDoorLnR2
/-
  SchedPlays: the document's turns in memory; At, Ready, Rest
-/
namespace Go.Proofs.YtnohcbdnhpaafaaGreatDoor
open Go.RowKit

variable {w w' W : World} {ks : List Nat} {v vt vu x0 x1 : Value} {b r : Nat}

/-- a list of numbers that can be read, by its cells -/
def RdW (w : World) (v : Value) (ks : List Nat) : Prop := ReadsK 1 w v ks.length (uv ks)
theorem RdW.quiet (h : RdW w v ks) (k : Keeps Nowhere w w') : RdW w' v ks := ReadsK.later h k (fun _ _ x => x)
theorem RdW.at (h : RdW w v ks) : ∃ a c, v = .slice a ks.length c ∧ ks.length ≤ c ∧ c ≤ maxLen ∧ (a = none → c = 0) ∧ ∀ (j k : Nat), ks[j]? = some k → ∃ g o, a = some ⟨g, o, none⟩ ∧ w.cell? ⟨g, o + j, none⟩ = some (.int .u32 k) := by
  obtain ⟨_, a, c, e, h1, h2, h3, h4⟩ := h
  exact ⟨a, c, e, h1, h2, h3, fun j k hj => h4 j _ (uv_at hj)⟩
theorem RdW.rdU (h : RdW w v ks) : RdU w v ks := by
  obtain ⟨a, c, e, h1, h2, _, h4⟩ := h.at
  exact ⟨a, c, e, h1, h2, h4⟩
theorem owns_rdW {B : Nat} (h : w.ownsRow B 33 1 v ks.length (uv ks)) : RdW w v ks := owns_readsK h
theorem rdW_nil (w : World) : RdW w (.slice none 0 0) [] := ⟨rfl, none, 0, rfl, Nat.le_refl _, Nat.zero_le _, fun _ => rfl, fun j u hj => by simp [uv] at hj⟩
theorem rdW_none {q : Option Addr} {c : Nat} (hc : c ≤ maxLen) (hq : q = none → c = 0) : RdW w (.slice q 0 c) [] := ⟨rfl, q, c, rfl, Nat.zero_le _, hc, hq, fun j u hj => by simp [uv] at hj⟩
theorem uv_one (l : List Nat) : ∀ u ∈ uv l, u.oneCell' = true := by
  intro u hu
  obtain ⟨k, _, rfl⟩ := List.mem_map.1 hu
  rfl
theorem uv_append (a b : List Nat) : uv (a ++ b) = uv a ++ uv b := by simp [uv]
theorem uv_get (l : List Nat) (j : Nat) : (uv l)[j]? = (l[j]?).map Rbuint32.kv := by simp [uv]
theorem RdW.take {a : Option Addr} {c k : Nat} (h : RdW w (.slice a ks.length c) ks) (hk : k ≤ ks.length) : RdW w (.slice a k c) (ks.take k) := by
  obtain ⟨hl, a', c', he, h1, h2, h3, hc⟩ := h
  injection he with e1 _ e3
  subst e1 e3
  have hlen : (ks.take k).length = k := by rw [List.length_take]; omega
  refine ⟨by rw [uv_len, Nat.mul_one], a, c, by rw [hlen], by rw [hlen]; omega, h2, h3, fun j u hj => hc j u ?_⟩
  rw [uv_get] at hj ⊢
  rw [List.getElem?_take] at hj
  split at hj
  · exact hj
  · simp at hj
theorem RdW.drop {g o c k : Nat} (h : RdW w (.slice (some ⟨g, o, none⟩) ks.length c) ks) (hk : k ≤ ks.length) : RdW w (.slice (some ⟨g, o + k, none⟩) (ks.length - k) (c - k)) (ks.drop k) := by
  obtain ⟨hl, a', c', he, h1, h2, h3, hc⟩ := h
  injection he with e1 _ e3
  subst e1 e3
  have hlen : (ks.drop k).length = ks.length - k := List.length_drop
  refine ⟨by rw [uv_len, Nat.mul_one], _, c - k, by rw [hlen], by rw [hlen]; omega, by omega, fun e => (by cases e), fun j u hj => ⟨g, o + k, rfl, ?_⟩⟩
  obtain ⟨g', o', ha, h4⟩ := hc (k + j) u (by rw [uv_get] at hj ⊢; rw [List.getElem?_drop] at hj; exact hj)
  injection ha with ha
  injection ha with e1 e2
  subst e1 e2
  rw [Nat.add_assoc]
  exact h4
theorem litU (w : World) (base : Nat) (h : base ≤ w.heap.size) : (w.alloc (.cells #[] 33)).ownsRow base 33 1 (.slice (some ⟨w.heap.size, 0, none⟩) 0 0) 0 [] := World.ownsRow_lit w #[] 0 h (Nat.zero_le _) rfl

/-- the stream's place, -1 if it has none -/
def atU (ks : List Nat) (k : Nat) : Int := if k ∈ ks then (ks.idxOf k : Nat) else -1
theorem idxOf_firstU {k j : Nat} (hj : ks[j]? = some k) (h : ∀ i, i < j → ks[i]? ≠ some k) : ks.idxOf k = j := by
  induction ks generalizing j with
  | nil => simp at hj
  | cons y ks ih =>
    cases j with
    | zero =>
      simp only [List.getElem?_cons_zero, Option.some.injEq] at hj
      subst hj
      simp
    | succ j =>
      rw [List.getElem?_cons_succ] at hj
      have hy : y ≠ k := fun e => h 0 (by omega) (by rw [e]; rfl)
      have e := ih hj (fun i hi => by have := h (i + 1) (by omega); rwa [List.getElem?_cons_succ] at this)
      rw [List.idxOf_cons, e, beq_false_of_ne hy, cond_false]
theorem first_ofU {k : Nat} (h : k ∈ ks) : ∃ j : Nat, ks[j]? = some k ∧ ∀ i, i < j → ks[i]? ≠ some k := by
  induction ks with
  | nil => simp at h
  | cons y ks ih =>
    by_cases hy : y = k
    · exact ⟨0, by rw [hy]; rfl, fun i hi => by omega⟩
    · obtain ⟨j, hj, hf⟩ := ih (by rcases List.mem_cons.1 h with e | e; exact absurd e.symm hy; exact e)
      refine ⟨j + 1, by rw [List.getElem?_cons_succ]; exact hj, fun i hi => ?_⟩
      cases i with
      | zero => simpa using hy
      | succ i => rw [List.getElem?_cons_succ]; exact hf i (by omega)
theorem erase_firstU {k j : Nat} (hj : ks[j]? = some k) (h : ∀ i, i < j → ks[i]? ≠ some k) : ks.erase k = ks.take j ++ ks.drop (j + 1) := by
  induction ks generalizing j with
  | nil => simp at hj
  | cons y ks ih =>
    cases j with
    | zero =>
      simp only [List.getElem?_cons_zero, Option.some.injEq] at hj
      subst hj
      simp
    | succ j =>
      rw [List.getElem?_cons_succ] at hj
      have hy : y ≠ k := fun e => h 0 (by omega) (by rw [e]; rfl)
      rw [List.erase_cons_tail (by simpa using hy), ih hj (fun i hi => by have := h (i + 1) (by omega); rwa [List.getElem?_cons_succ] at this)]
      rfl
theorem atU_cases (ks : List Nat) (k : Nat) : (k ∉ ks ∧ atU ks k = -1) ∨ ∃ j : Nat, atU ks k = j ∧ ks[j]? = some k ∧ ks.erase k = ks.take j ++ ks.drop (j + 1) := by
  by_cases h : k ∈ ks
  · obtain ⟨j, hj, hf⟩ := first_ofU h
    exact .inr ⟨j, by unfold atU; rw [if_pos h, idxOf_firstU hj hf], hj, erase_firstU hj hf⟩
  · exact .inl ⟨h, if_neg h⟩
theorem atU_at {k j : Nat} (hj : ks[j]? = some k) (h : ∀ i, i < j → ks[i]? ≠ some k) : atU ks k = j := by
  unfold atU
  rw [if_pos (List.mem_of_getElem? hj), idxOf_firstU hj h]
theorem atU_none {k : Nat} (h : ∀ i, i < ks.length → ks[i]? ≠ some k) : atU ks k = -1 := by
  unfold atU
  rw [if_neg]
  intro hm
  obtain ⟨j, hj⟩ := List.mem_iff_getElem?.1 hm
  exact h j (List.getElem?_eq_some_iff.1 hj).1 hj
set_option maxHeartbeats 1000000 in
theorem refAt (ta : Option Addr) (tn tc : Nat) (k : Nat) (hu : RdW w vu ks) :
    Calls Tryz.prog 49 #[.agg #[.slice ta tn tc, vu], .int .u32 k] w fun e w' => e = .returned (.int .i64 (atU ks k)) ∧ Aside (Keeps Nowhere w w') := by
  obtain ⟨ua, uc, rfl, hl1, hm, _, hca⟩ := hu.at
  obtain ⟨n, hn⟩ : ∃ n, n = ks.length := ⟨_, rfl⟩
  have hl : (n : Int) ≤ 9223372036854775807 := by unfold maxLen at hm; omega
  rw [← hn] at hl1 ⊢
  obtain ⟨w1, hw1⟩ : ∃ w1, w1 = w.alloc (.cells #[.slice ta tn tc, .slice ua n uc] 29) := ⟨_, rfl⟩
  have k1 : Keeps Nowhere w w1 := by rw [hw1]; exact (Keeps.refl _ _).alloc _
  have c1 : w1.cell? ⟨w.heap.size, 1, none⟩ = some (.slice ua n uc) := by rw [hw1]; exact (Cells.new w _ _).cell 1
  have CA : Aside (∀ (j k : Nat), ks[j]? = some k → ∃ g o, ua = some ⟨g, o, none⟩ ∧ w1.cell? ⟨g, o + j, none⟩ = some (.int .u32 k)) := ⟨fun j k hj => by
    obtain ⟨g, o, e, hc⟩ := hca j k hj
    exact ⟨g, o, e, by rw [k1.bel.cell (World.block_lt_of_cell? w _ hc)]; exact hc⟩⟩
  have K1 := Aside.mk k1
  have HN := Aside.mk hn
  clear hca hu hn hm k1
  go_enter Tryz.func49, Tryz.ntmps49
  go_upto_region 1 with fail
  rw [← hw1]
  clear hw1
  generalize w.heap.size = b at c1 ⊢
  go_upto_region 2 with fail
  go_loopw [5] (fun i wr => ∃ m : Nat, m ≤ n ∧ i = .int .i64 m ∧ wr = w1 ∧ Aside (∀ i, i < m → ks[i]? ≠ some k)) (fun i _ => n - (intOf i).toNat)
  case atStart => exact ⟨0, Nat.zero_le _, rfl, rfl, ⟨fun _ h => by omega⟩⟩
  case round =>
    obtain ⟨m, hk, rfl, rfl, J⟩ := hrel
    by_cases hkl : m < n
    · have hkl' : (m : Int) < (n : Int) := by omega
      obtain ⟨u, hu⟩ : ∃ u, ks[m]? = some u := ⟨_, List.getElem?_eq_getElem (by have := HN.it; omega)⟩
      obtain ⟨xb, xo, rfl, hx⟩ := CA.it m u hu
      have HU := Aside.mk hu
      clear CA hu
      by_cases huk : u = k
      · subst huk
        go_wp2_with fail
        go_ret
        exact ⟨by rw [atU_at HU.it J.it]; rfl, K1⟩
      · have hne : ¬ (u : Int) = k := by omega
        go_wp2_with fail
        go_roundw
        case rel => exact ⟨m + 1, by omega, by go_num, trivial, ⟨fun i hi => by
          rcases Nat.lt_or_ge i m with h | h
          · exact J.it i h
          · obtain rfl : i = m := by omega
            rw [HU.it]
            exact fun e => huk (Option.some.inj e)⟩⟩
        case measure => simp [intOf]; omega
    · obtain rfl : m = n := by omega
      go_wp2_with fail
      go_ret
      exact ⟨by rw [atU_none (fun i hi => J.it i (by rw [HN.it]; exact hi))]; rfl, K1⟩
end Go.Proofs.YtnohcbdnhpaafaaGreatDoor

/-
  SchedPlays: the document's Ready, Rest, First, Served
-/
namespace Go.Proofs.YtnohcbdnhpaafaaGreatDoor
open Go.RowKit

variable {w w' W : World} {ks : List Nat} {v vt vu x0 x1 y : Value} {b r : Nat}

/-- a document's function at work: its own copy, the answer's box -/
structure Bx2 (w : World) (b r : Nat) (x0 x1 : Value) (W : World) : Prop where
  cb : Cells W b 29 [x0, x1]
  cr : Cells W r 29 [.slice none 0 0, .slice none 0 0]
  k : Keeps Nowhere w W
  ne : b ≠ r
  hb : w.heap.size ≤ b
  hr : w.heap.size ≤ r
theorem Bx2.quiet (h : Aside (Bx2 w b r x0 x1 W)) (k : Keeps Nowhere W w') : Aside (Bx2 w b r x0 x1 w') := ⟨⟨h.it.cb.later k (fun x => x), h.it.cr.later k (fun x => x), h.it.k.trans k, h.it.ne, h.it.hb, h.it.hr⟩⟩
theorem Bx2.start (w : World) (x0 x1 : Value) : Aside (Bx2 w w.heap.size (w.heap.size + 1) x0 x1 ((w.alloc (.cells #[x0, x1] 29)).alloc (.cells #[.slice none 0 0, .slice none 0 0] 29))) := by
  have c := Cells.new (w.alloc (.cells #[x0, x1] 29)) 29 [.slice none 0 0, .slice none 0 0]
  rw [World.size_alloc] at c
  exact ⟨⟨(Cells.new w 29 [x0, x1]).later ((Keeps.refl Nowhere _).alloc _) (fun x => x), c, ((Keeps.refl _ _).alloc _).alloc _, by omega, Nat.le_refl _, by omega⟩⟩
theorem Bx2.cs (h : Aside (Bx2 w b r x0 x1 W)) : W.cell? ⟨b, 0, none⟩ = some x0 ∧ W.cell? ⟨b, 1, none⟩ = some x1 ∧ W.cell? ⟨r, 0, none⟩ = some (.slice none 0 0) ∧ W.cell? ⟨r, 1, none⟩ = some (.slice none 0 0) := ⟨h.it.cb.cell 0, h.it.cb.cell 1, h.it.cr.cell 0, h.it.cr.cell 1⟩
theorem Bx2.fs (h : Aside (Bx2 w b r x0 x1 W)) : W.frozen? ⟨b, 0, none⟩ = false ∧ W.frozen? ⟨b, 1, none⟩ = false ∧ W.frozen? ⟨r, 0, none⟩ = false ∧ W.frozen? ⟨r, 1, none⟩ = false := ⟨h.it.cb.frozen 0, h.it.cb.frozen 1, h.it.cr.frozen 0, h.it.cr.frozen 1⟩
theorem Bx2.set (h : Aside (Bx2 w b r x0 x1 W)) (j : Nat) (u : Value) : Aside (Bx2 w b r (if j = 0 then u else x0) (if j = 1 then u else x1) (W.setCell ⟨b, j, none⟩ u)) := by
  refine ⟨⟨?_, h.it.cr.setOther _ _ (Ne.symm h.it.ne), h.it.k.setCell _ _ (fun hlt => absurd hlt (by have := h.it.hb; show ¬ b < _; omega)), h.it.ne, h.it.hb, h.it.hr⟩⟩
  have := h.it.cb.setCell j u
  match j, this with
  | 0, this => exact this
  | 1, this => exact this
  | j + 2, this => exact this
/-- the answer is laid out -/
theorem Bx2.out (h : Aside (Bx2 w b r x0 x1 W)) (u0 u1 : Value) : ((W.setCell ⟨r, 0, none⟩ u0).setCell ⟨r, 1, none⟩ u1).cell? ⟨r, 0, none⟩ = some u0 ∧ ((W.setCell ⟨r, 0, none⟩ u0).setCell ⟨r, 1, none⟩ u1).cell? ⟨r, 1, none⟩ = some u1 ∧ Aside (Keeps Nowhere w ((W.setCell ⟨r, 0, none⟩ u0).setCell ⟨r, 1, none⟩ u1)) := by
  have c := (h.it.cr.setCell 0 u0).setCell 1 u1
  have hg : ∀ {p : Addr}, p.block = r → (p.block < w.heap.size → Nowhere p.block) := fun e hlt => absurd hlt (by have := h.it.hr; rw [e]; omega)
  exact ⟨c.cell 0, c.cell 1, ⟨(h.it.k.setCell _ _ (hg rfl)).setCell _ _ (hg rfl)⟩⟩
/-- a list that is answered: the old one, or one in new memory -/
def UN (w w' : World) (v v' : Value) (ks : List Nat) : Prop := RdW w' v' ks ∧ ∀ b, v'.ownBlock = some b → v.ownBlock = some b ∨ (w.heap.size ≤ b ∧ b < w'.heap.size)
theorem owns_UN {B : Nat} (h : w'.ownsRow B 33 1 v ks.length (uv ks)) (hB : w.heap.size ≤ B) : UN w w' y v ks := ⟨owns_rdW h, fun b hb => .inr ⟨Nat.le_trans hB (owns_base h b hb), owns_lt h b hb⟩⟩
theorem UN.quiet (h : UN w w' v y ks) (k : Keeps Nowhere w' W) : UN w W v y ks := ⟨h.1.quiet k, fun b hb => by
  rcases h.2 b hb with h | ⟨h1, h2⟩
  · exact .inl h
  · exact .inr ⟨h1, Nat.lt_of_lt_of_le h2 k.size⟩⟩
theorem reads_off {k n g : Nat} {T : TypeId} {cs xs : List Value} (h : ReadsK k W y n xs) (hk : Keeps (fun c => c = g) W w') (hc : Cells W g T cs) (hx : ∀ u ∈ xs, u ∉ cs) : ReadsK k w' y n xs := by
  obtain ⟨hl, a, c, e, h1, h2, h3, h4⟩ := h
  refine ⟨hl, a, c, e, h1, h2, h3, fun j u hj => ?_⟩
  obtain ⟨g', o, ha, hcell⟩ := h4 j u hj
  refine ⟨g', o, ha, ?_⟩
  have hne : g' ≠ g := by
    rintro rfl
    rw [hc.cell] at hcell
    exact hx u (List.mem_of_getElem? hj) (List.mem_of_getElem? hcell)
  rw [World.cell?_of_block (w := W) (hk.block _ (World.block_lt_of_cell? W _ hcell) hne)]
  exact hcell
def isSl : Value → Bool
  | .slice _ _ _ => true
  | _ => false
theorem uv_sl (l : List Nat) : ∀ u ∈ uv l, isSl u = false := by
  intro u hu
  obtain ⟨k, _, rfl⟩ := List.mem_map.1 hu
  rfl
theorem flatT_sl (L : List Tk) : ∀ u ∈ flatT L, isSl u = false := by
  intro u hu
  unfold flatT at hu
  obtain ⟨t, _, ht⟩ := List.mem_flatMap.1 hu
  simp only [tcells, List.mem_cons, List.not_mem_nil, or_false] at ht
  rcases ht with rfl | rfl | rfl <;> rfl
theorem not_sl {xs cs : List Value} (h : ∀ u ∈ xs, isSl u = false) (hc : ∀ u ∈ cs, isSl u = true) : ∀ u ∈ xs, u ∉ cs := fun u hu hm => by
  have a := h u hu
  rw [hc u hm] at a
  cases a
theorem nil2_sl : ∀ u ∈ [Value.slice none 0 0, Value.slice none 0 0], isSl u = true := by
  intro u hu
  simp only [List.mem_cons, List.not_mem_nil, or_false, or_self] at hu
  rw [hu]; rfl
theorem Bx2.outK (W : World) (r : Nat) (u0 u1 : Value) : Keeps (fun c => c = r) W ((W.setCell ⟨r, 0, none⟩ u0).setCell ⟨r, 1, none⟩ u1) := ((Keeps.refl (fun c => c = r) W).setCell ⟨r, 0, none⟩ u0 (fun _ => rfl)).setCell ⟨r, 1, none⟩ u1 (fun _ => rfl)
theorem Bx2.un {u0 u1 : Value} (h : Aside (Bx2 w b r x0 x1 W)) (hu : UN w W v y ks) : UN w ((W.setCell ⟨r, 0, none⟩ u0).setCell ⟨r, 1, none⟩ u1) v y ks :=
  ⟨reads_off hu.1 (Bx2.outK W r u0 u1) h.it.cr (not_sl (uv_sl ks) nil2_sl), fun c hc => by
    rcases hu.2 c hc with h1 | ⟨h1, h2⟩
    · exact .inl h1
    · exact .inr ⟨h1, Nat.lt_of_lt_of_le h2 (Bx2.outK W r u0 u1).size⟩⟩
set_option maxHeartbeats 2000000 in
theorem refReady (ta : Option Addr) (tn tc k : Nat) (hu : RdW w vu ks) (hb : ks.length * 4 + 4 ≤ 140737488355328) :
    Calls Tryz.prog 20 #[.agg #[.slice ta tn tc, vu], .int .u32 k] w fun e w' => ∃ v', e = .returned (.tuple #[.agg #[.slice ta tn tc, v'], .bool (addT ks k)]) ∧ Aside (UN w w' vu v' (addL ks k)) ∧ Aside (Keeps Nowhere w w') := by
  obtain ⟨ua, uc, hvu, hl1, hm, _, _⟩ := hu.at
  have P0 := Bx2.start w (.slice ta tn tc) vu
  have HU := Aside.mk hu
  obtain ⟨W0, hW0⟩ : ∃ W0, W0 = (w.alloc (.cells #[.slice ta tn tc, vu] 29)).alloc (.cells #[.slice none 0 0, .slice none 0 0] 29) := ⟨_, rfl⟩
  rw [← hW0] at P0
  subst hvu
  have AT := Aside.mk (refAt (w := W0) ta tn tc k (hu.quiet P0.it.k))
  obtain ⟨n, hn⟩ : ∃ n, n = ks.length := ⟨_, rfl⟩
  rw [← hn] at hl1 hb hW0 P0 AT ⊢
  rw [← hn] at HU
  have HN := Aside.mk hn
  clear hu hm hn
  obtain ⟨d0, d1, d2, d3⟩ := Bx2.cs P0
  go_enter Tryz.func20, Tryz.ntmps20
  go_upto_region 1 with fail
  rw [← hW0]
  clear hW0
  obtain ⟨b, hbb⟩ : ∃ b, Aside (b = w.heap.size) := ⟨_, ⟨rfl⟩⟩
  obtain ⟨r, hrr⟩ : ∃ r, Aside (r = w.heap.size + 1) := ⟨_, ⟨rfl⟩⟩
  rw [← hrr.it, ← hbb.it] at P0 ⊢
  rw [← hrr.it] at d2 d3
  rw [← hbb.it] at d0 d1
  rcases atU_cases ks k with ⟨hk, ef⟩ | ⟨j, ef, hj, _⟩
  · rw [ef] at AT
    have HK := Aside.mk hk
    clear ef hk
    go_upto_region 3 with (first | (go_at_call 49; refine AT.it.mono ?_; rintro e w1 ⟨rfl, k1⟩) | fail)
    have P1 := Bx2.quiet P0 k1.it
    clear d0 d1 d2 d3 AT P0
    have d1 : ∀ o, (w1.alloc o).cell? ⟨b, 1, none⟩ = some (.slice ua n uc) := fun o => alloc_cell o (Bx2.cs P1).2.1
    have HB : Aside (w.heap.size ≤ w1.heap.size) := ⟨P1.it.k.size⟩
    have O0 := Aside.mk (litU w1 w1.heap.size (Nat.le_refl _))
    have K0 : Aside (Keeps Nowhere w1 (w1.alloc (.cells #[] 33))) := ⟨(Keeps.refl _ _).alloc _⟩
    have RX : Aside (ReadsK 1 (w1.alloc (.cells #[] 33)) (.slice ua n uc) n (uv ks)) := ⟨by have := (HU.it.quiet P1.it.k).quiet K0.it; unfold RdW at this; rw [← HN.it] at this; exact this⟩
    have KW : Aside (∀ w2, Keeps (fun c => (Value.slice (some ⟨w1.heap.size, 0, none⟩) 0 0).ownBlock = some c) (w1.alloc (.cells #[] 33)) w2 → Keeps Nowhere w1 w2) := ⟨fun w2 h => K0.it.next h (fun c hc hlt => by
      have : w1.heap.size = c := by simpa [Value.ownBlock] using hc
      omega)⟩
    go_upto_region 4 with (first
      | (at_builtin; refine wpList_appendR rfl (.tmp 14) (.tmp 16) 27 rfl 33 (.int .u32 0) 1 4 Tryz.underlying27 u32info rfl (by decide) w2 ((Keeps.refl _ _).alloc _) w1.heap.size _ _ _ o1.it _ 1 [.int .u32 k] (readsK_new _ _ _) (fun x hx => by rw [List.mem_singleton.1 hx]; rfl) (by omega) (by unfold maxLen; omega) (KW.it w2 k2.it).size rfl rfl ?_; intro v2 w3 o2 k3 _; obtain ⟨h0, h1, h2, hv2⟩ := owns_shapeK o2.it; subst hv2; have K3 := Aside.mk (show Keeps Nowhere w1 w3 from ((KW.it w2 k2.it).alloc _).next k3.it (fun c hc hlt => by have h1 := owns_base o1.it c hc; omega)); have P3 := Bx2.quiet P1 K3.it; obtain ⟨e0, e1, e2, e3⟩ := Bx2.cs P3; obtain ⟨g0, g1, g2, g3⟩ := Bx2.fs P3)
      | (at_builtin; refine wpList_appendR rfl (.tmp 11) (.tmp 13) 27 rfl 33 (.int .u32 0) 1 4 Tryz.underlying27 u32info rfl (by decide) _ (Keeps.refl _ _) w1.heap.size _ _ _ O0.it _ n _ RX.it (uv_one _) (by omega) (by unfold maxLen; omega) K0.it.size rfl rfl ?_; intro v1 w2 o1 k2 b2; obtain ⟨c0, c1, c2, hv1⟩ := owns_shapeK o1.it; subst hv1; have d1' : ∀ o, (w2.alloc o).cell? ⟨b, 1, none⟩ = some (.slice ua n uc) := fun o => alloc_cell o (Bx2.cs (Bx2.quiet P1 (KW.it w2 k2.it))).2.1)
      | fail)
    have P4 := Bx2.set P3 1 (.slice h0 h1 h2)
    simp only [if_true, if_neg (show ¬ (1 : Nat) = 0 by decide)] at P4
    have U4 : Aside (UN w (w3.setCell ⟨b, 1, none⟩ (.slice h0 h1 h2)) (.slice ua n uc) (.slice h0 h1 h2) (addL ks k)) := ⟨by
      unfold addL
      rw [if_neg HK.it]
      refine owns_UN (B := w1.heap.size) ?_ HB.it
      refine owns_later (S := fun c => c = b) ?_ ((Keeps.refl _ _).setCell _ _ (fun _ => rfl)) (fun c hc e => by have := owns_base o2.it c hc; have := P1.it.cb.lt; omega)
      have hh := o2.it
      rw [List.nil_append, Nat.zero_add] at hh
      rw [List.length_append, uv_append, ← HN.it]
      exact hh⟩
    clear e0 e1 e2 e3 g0 g1 g2 g3 d1 d1' o1 o2 k2 k3 O0 RX KW b2 P3
    generalize w3.setCell ⟨b, 1, none⟩ (.slice h0 h1 h2) = W4 at P4 U4 ⊢
    obtain ⟨e0, e1, e2, e3⟩ := Bx2.cs P4
    obtain ⟨g0, g1, g2, g3⟩ := Bx2.fs P4
    obtain ⟨y0, y1, K5⟩ := Bx2.out P4 (.slice ta tn tc) (.slice h0 h1 h2)
    have U5 : Aside (UN w ((W4.setCell ⟨r, 0, none⟩ (.slice ta tn tc)).setCell ⟨r, 1, none⟩ (.slice h0 h1 h2)) (.slice ua n uc) (.slice h0 h1 h2) (addL ks k)) := ⟨Bx2.un P4 U4.it⟩
    go_wp2
    generalize (W4.setCell ⟨r, 0, none⟩ (.slice ta tn tc)).setCell ⟨r, 1, none⟩ (.slice h0 h1 h2) = W5 at y0 y1 K5 U5 ⊢
    refine bodyPost_ret (v := .tuple #[.agg #[.slice ta tn tc, .slice h0 h1 h2], .bool true]) (by simp [results, Tryz.results20, go_sem, y0, y1]) rfl ?_
    exact ⟨_, by rw [show addT ks k = true from decide_eq_true HK.it], U5, K5⟩
  · rw [ef] at AT
    have hj0 : ¬ (j : Int) < 0 := by omega
    have HK := Aside.mk (List.mem_of_getElem? hj)
    clear ef hj
    go_upto_region 2 with (first | (go_at_call 49; refine AT.it.mono ?_; rintro e w1 ⟨rfl, k1⟩) | fail)
    have P1 := Bx2.quiet P0 k1.it
    clear d0 d1 d2 d3 AT P0
    obtain ⟨e0, e1, e2, e3⟩ := Bx2.cs P1
    obtain ⟨g0, g1, g2, g3⟩ := Bx2.fs P1
    obtain ⟨y0, y1, K5⟩ := Bx2.out P1 (.slice ta tn tc) (.slice ua n uc)
    go_wp2
    generalize (w1.setCell ⟨r, 0, none⟩ (.slice ta tn tc)).setCell ⟨r, 1, none⟩ (.slice ua n uc) = W5 at y0 y1 K5 ⊢
    refine bodyPost_ret (v := .tuple #[.agg #[.slice ta tn tc, .slice ua n uc], .bool false]) (by simp [results, Tryz.results20, go_sem, y0, y1]) rfl ?_
    refine ⟨_, by rw [show addT ks k = false from decide_eq_false (fun x => x HK.it)], ⟨?_⟩, K5⟩
    unfold addL
    rw [if_pos HK.it]
    exact ⟨HU.it.quiet K5.it, fun c hc => .inl hc⟩
end Go.Proofs.YtnohcbdnhpaafaaGreatDoor

/-
  SchedPlays: the document's Rest
-/
namespace Go.Proofs.YtnohcbdnhpaafaaGreatDoor
open Go.RowKit

variable {w w' W : World} {ks : List Nat} {v vt vu x0 x1 y : Value} {b r : Nat}

set_option maxHeartbeats 4000000 in
theorem refRest (ta : Option Addr) (tn tc k : Nat) (hu : RdW w vu ks) (hb : ks.length * 4 ≤ 140737488355328) :
    Calls Tryz.prog 21 #[.agg #[.slice ta tn tc, vu], .int .u32 k] w fun e w' => ∃ v', e = .returned (.tuple #[.agg #[.slice ta tn tc, v'], .bool (inT ks k)]) ∧ Aside (UN w w' vu v' (remL ks k)) ∧ Aside (Keeps Nowhere w w') := by
  obtain ⟨ua, uc, hvu, hl1, hm, _, hca⟩ := hu.at
  have P0 := Bx2.start w (.slice ta tn tc) vu
  have HU := Aside.mk hu
  obtain ⟨W0, hW0⟩ : ∃ W0, W0 = (w.alloc (.cells #[.slice ta tn tc, vu] 29)).alloc (.cells #[.slice none 0 0, .slice none 0 0] 29) := ⟨_, rfl⟩
  rw [← hW0] at P0
  subst hvu
  have AT := Aside.mk (refAt (w := W0) ta tn tc k (hu.quiet P0.it.k))
  have hu' := hu
  obtain ⟨n, hn⟩ : ∃ n, n = ks.length := ⟨_, rfl⟩
  have HTK := Aside.mk (fun j (hj : j ≤ ks.length) => hu'.take hj)
  rw [← hn] at hl1 hb hW0 P0 AT hu' ⊢
  rw [← hn] at HU
  have HN := Aside.mk hn
  have HU0 := Aside.mk hu
  clear hn hu hu'
  obtain ⟨d0, d1, d2, d3⟩ := Bx2.cs P0
  go_enter Tryz.func21, Tryz.ntmps21
  go_upto_region 1 with fail
  rw [← hW0]
  clear hW0
  obtain ⟨b, hbb⟩ : ∃ b, Aside (b = w.heap.size) := ⟨_, ⟨rfl⟩⟩
  obtain ⟨r, hrr⟩ : ∃ r, Aside (r = w.heap.size + 1) := ⟨_, ⟨rfl⟩⟩
  rw [← hrr.it, ← hbb.it] at P0 ⊢
  rw [← hrr.it] at d2 d3
  rw [← hbb.it] at d0 d1
  rcases atU_cases ks k with ⟨hk, ef⟩ | ⟨j, ef, hj, her⟩
  · rw [ef] at AT
    have HK := Aside.mk hk
    clear ef hk hca hm HTK HU0
    go_upto_region 3 with (first | (go_at_call 49; refine AT.it.mono ?_; rintro e w1 ⟨rfl, k1⟩) | fail)
    have P1 := Bx2.quiet P0 k1.it
    clear d0 d1 d2 d3 AT P0
    obtain ⟨e0, e1, e2, e3⟩ := Bx2.cs P1
    obtain ⟨g0, g1, g2, g3⟩ := Bx2.fs P1
    obtain ⟨y0, y1, K5⟩ := Bx2.out P1 (.slice ta tn tc) (.slice ua n uc)
    go_wp2
    generalize (w1.setCell ⟨r, 0, none⟩ (.slice ta tn tc)).setCell ⟨r, 1, none⟩ (.slice ua n uc) = W5 at y0 y1 K5 ⊢
    refine bodyPost_ret (v := .tuple #[.agg #[.slice ta tn tc, .slice ua n uc], .bool false]) (by simp [results, Tryz.results21, go_sem, y0, y1]) rfl ?_
    refine ⟨_, by rw [show inT ks k = false from decide_eq_false HK.it], ⟨?_⟩, K5⟩
    unfold remL
    rw [List.erase_of_not_mem HK.it]
    exact ⟨HU.it.quiet K5.it, fun c hc => .inl hc⟩
  · rw [ef] at AT
    have hj0 : ¬ (j : Int) < 0 := by omega
    have HK := Aside.mk (List.mem_of_getElem? hj)
    have HE := Aside.mk her
    obtain ⟨g, o, rfl, _⟩ := hca j k hj
    have hjn : j < n := by have := (List.getElem?_eq_some_iff.1 hj).1; have := HN.it; omega
    have n1 : (j : Int) < n := by omega
    have n2 : (0 : Int) ≤ j := by omega
    have n3 : (n : Int) ≤ uc := by omega
    have hn1 : (n : Int) ≤ 140737488355328 := by omega
    have R1 := Aside.mk (HTK.it j (by have := HN.it; omega))
    have R2w : RdW w (.slice (some ⟨g, o + (j + 1), none⟩) (n - (j + 1)) (uc - (j + 1))) (ks.drop (j + 1)) := by have := HU0.it.drop (k := j + 1) (by have := HN.it; omega); rw [← HN.it] at this; exact this
    have HD : Aside ((ks.drop (j + 1)).length = n - (j + 1)) := ⟨by rw [List.length_drop, HN.it]⟩
    have HL : Aside ((ks.take j).length = j) := ⟨by rw [List.length_take]; have := HN.it; omega⟩
    clear ef hj hca hm HTK her HU0
    go_upto_region 4 with (first | (go_at_call 49; refine AT.it.mono ?_; rintro e w1 ⟨rfl, k1⟩) | fail)
    have P1 := Bx2.quiet P0 k1.it
    have R2 := Aside.mk (R2w.quiet P1.it.k)
    clear d0 d1 d2 d3 AT P0 R2w
    have d1 : ∀ o', (w1.alloc o').cell? ⟨b, 1, none⟩ = some (.slice (some ⟨g, o, none⟩) n uc) := fun o' => alloc_cell o' (Bx2.cs P1).2.1
    have HB : Aside (w.heap.size ≤ w1.heap.size) := ⟨P1.it.k.size⟩
    have O0 := Aside.mk (litU w1 w1.heap.size (Nat.le_refl _))
    have K0 : Aside (Keeps Nowhere w1 (w1.alloc (.cells #[] 33))) := ⟨(Keeps.refl _ _).alloc _⟩
    have R1' : Aside (ReadsK 1 (w1.alloc (.cells #[] 33)) (.slice (some ⟨g, o, none⟩) j uc) j (uv (ks.take j))) := ⟨by have := (R1.it.quiet P1.it.k).quiet K0.it; unfold RdW at this; rw [HL.it] at this; exact this⟩
    have RXA := R1
    clear R1
    have KW : Aside (∀ w2, Keeps (fun c => (Value.slice (some ⟨w1.heap.size, 0, none⟩) 0 0).ownBlock = some c) (w1.alloc (.cells #[] 33)) w2 → Keeps Nowhere w1 w2) := ⟨fun w2 h => K0.it.next h (fun c hc hlt => by
      have : w1.heap.size = c := by simpa [Value.ownBlock] using hc
      omega)⟩
    by_cases hc : uc = j + 1
    · have RX2 : Aside (∀ w2, Keeps Nowhere w1 w2 → ReadsK 1 w2 (.slice (some ⟨g, o, none⟩) 0 0) (ks.drop (j + 1)).length (uv (ks.drop (j + 1)))) := ⟨fun w2 _ => by
        have e : ks.drop (j + 1) = [] := List.eq_nil_of_length_eq_zero (by have := HD.it; omega)
        rw [e]
        exact rdW_none (Nat.zero_le _) (fun h => by cases h)⟩
      have hN1 : n = j + 1 := by omega
      subst hc
      subst hN1
      clear R2
      go_upto_region 5 with (first
        | (at_builtin; refine wpList_appendR rfl (.tmp 14) (.tmp 18) 27 rfl 33 (.int .u32 0) 1 4 Tryz.underlying27 u32info rfl (by decide) _ (Keeps.refl _ _) w1.heap.size _ _ _ O0.it _ j _ R1'.it (uv_one _) (by omega) (by unfold maxLen; omega) K0.it.size rfl rfl ?_; intro v1 w2 o1 k2 b2; obtain ⟨c0, c1, c2, hv1⟩ := owns_shapeK o1.it; subst hv1)
        | fail)
      have P2 := Bx2.quiet P1 (KW.it w2 k2.it)
      clear d1 RXA
      have d1 := (Bx2.cs P2).2.1
      go_upto_region 6 with (first
        | (at_builtin; refine wpList_appendR rfl (.tmp 20) (.tmp 25) 27 rfl 33 (.int .u32 0) 1 4 Tryz.underlying27 u32info rfl (by decide) w2 (Keeps.refl _ _) w1.heap.size _ _ _ o1.it _ (ks.drop (j + 1)).length _ (RX2.it w2 (KW.it w2 k2.it)) (uv_one _) (by have := HD.it; omega) (by unfold maxLen; have := HD.it; omega) (KW.it w2 k2.it).size rfl rfl ?_; intro v2 w3 o2 k3 _; obtain ⟨h0, h1, h2, hv2⟩ := owns_shapeK o2.it; subst hv2; have K3 := Aside.mk (show Keeps Nowhere w1 w3 from (KW.it w2 k2.it).next k3.it (fun c hc hlt => by have h1 := owns_base o1.it c hc; omega)); have P3 := Bx2.quiet P1 K3.it; obtain ⟨e0, e1, e2, e3⟩ := Bx2.cs P3; obtain ⟨g0, g1, g2, g3⟩ := Bx2.fs P3)
        | fail)
      have P4 := Bx2.set P3 1 (.slice h0 h1 h2)
      simp only [if_true, if_neg (show ¬ (1 : Nat) = 0 by decide)] at P4
      have U4 : Aside (UN w (w3.setCell ⟨b, 1, none⟩ (.slice h0 h1 h2)) (.slice (some ⟨g, o, none⟩) (j + 1) (j + 1)) (.slice h0 h1 h2) (remL ks k)) := ⟨by
        unfold remL
        rw [HE.it]
        refine owns_UN (B := w1.heap.size) ?_ HB.it
        refine owns_later (S := fun c => c = b) ?_ ((Keeps.refl _ _).setCell _ _ (fun _ => rfl)) (fun c hc e => by have := owns_base o2.it c hc; have := P1.it.cb.lt; omega)
        have hh := o2.it
        rw [List.nil_append, Nat.zero_add] at hh
        rw [List.length_append, uv_append, List.length_take, Nat.min_eq_left (by have := HN.it; omega)]
        exact hh⟩
      clear e0 e1 e2 e3 g0 g1 g2 g3 d1 o1 o2 k2 k3 O0 KW b2 P3 P2 RX2 R1'
      generalize w3.setCell ⟨b, 1, none⟩ (.slice h0 h1 h2) = W4 at P4 U4 ⊢
      obtain ⟨e0, e1, e2, e3⟩ := Bx2.cs P4
      obtain ⟨g0, g1, g2, g3⟩ := Bx2.fs P4
      obtain ⟨y0, y1, K5⟩ := Bx2.out P4 (.slice ta tn tc) (.slice h0 h1 h2)
      have U5 : Aside (UN w ((W4.setCell ⟨r, 0, none⟩ (.slice ta tn tc)).setCell ⟨r, 1, none⟩ (.slice h0 h1 h2)) (.slice (some ⟨g, o, none⟩) (j + 1) (j + 1)) (.slice h0 h1 h2) (remL ks k)) := ⟨Bx2.un P4 U4.it⟩
      go_wp2
      generalize (W4.setCell ⟨r, 0, none⟩ (.slice ta tn tc)).setCell ⟨r, 1, none⟩ (.slice h0 h1 h2) = W5 at y0 y1 K5 U5 ⊢
      refine bodyPost_ret (v := .tuple #[.agg #[.slice ta tn tc, .slice h0 h1 h2], .bool true]) (by simp [results, Tryz.results21, go_sem, y0, y1]) rfl ?_
      exact ⟨_, by rw [show inT ks k = true from decide_eq_true HK.it], U5, K5⟩
    · have hc' : ¬ (uc : Int) = j + 1 := by omega
      have RX2 : Aside (∀ w2, Keeps Nowhere w1 w2 → ReadsK 1 w2 (.slice (some ⟨g, o + (j + 1), none⟩) (n - (j + 1)) (uc - (j + 1))) (ks.drop (j + 1)).length (uv (ks.drop (j + 1)))) := ⟨fun w2 h => R2.it.quiet h⟩
      clear R2
      go_upto_region 5 with (first
        | (at_builtin; refine wpList_appendR rfl (.tmp 14) (.tmp 18) 27 rfl 33 (.int .u32 0) 1 4 Tryz.underlying27 u32info rfl (by decide) _ (Keeps.refl _ _) w1.heap.size _ _ _ O0.it _ j _ R1'.it (uv_one _) (by omega) (by unfold maxLen; omega) K0.it.size rfl rfl ?_; intro v1 w2 o1 k2 b2; obtain ⟨c0, c1, c2, hv1⟩ := owns_shapeK o1.it; subst hv1)
        | fail)
      have P2 := Bx2.quiet P1 (KW.it w2 k2.it)
      clear d1 RXA
      have d1 := (Bx2.cs P2).2.1
      go_upto_region 6 with (first
        | (at_builtin; refine wpList_appendR rfl (.tmp 20) (.tmp 25) 27 rfl 33 (.int .u32 0) 1 4 Tryz.underlying27 u32info rfl (by decide) w2 (Keeps.refl _ _) w1.heap.size _ _ _ o1.it _ (ks.drop (j + 1)).length _ (RX2.it w2 (KW.it w2 k2.it)) (uv_one _) (by have := HD.it; omega) (by unfold maxLen; have := HD.it; omega) (KW.it w2 k2.it).size rfl rfl ?_; intro v2 w3 o2 k3 _; obtain ⟨h0, h1, h2, hv2⟩ := owns_shapeK o2.it; subst hv2; have K3 := Aside.mk (show Keeps Nowhere w1 w3 from (KW.it w2 k2.it).next k3.it (fun c hc hlt => by have h1 := owns_base o1.it c hc; omega)); have P3 := Bx2.quiet P1 K3.it; obtain ⟨e0, e1, e2, e3⟩ := Bx2.cs P3; obtain ⟨g0, g1, g2, g3⟩ := Bx2.fs P3)
        | fail)
      have P4 := Bx2.set P3 1 (.slice h0 h1 h2)
      simp only [if_true, if_neg (show ¬ (1 : Nat) = 0 by decide)] at P4
      have U4 : Aside (UN w (w3.setCell ⟨b, 1, none⟩ (.slice h0 h1 h2)) (.slice (some ⟨g, o, none⟩) n uc) (.slice h0 h1 h2) (remL ks k)) := ⟨by
        unfold remL
        rw [HE.it]
        refine owns_UN (B := w1.heap.size) ?_ HB.it
        refine owns_later (S := fun c => c = b) ?_ ((Keeps.refl _ _).setCell _ _ (fun _ => rfl)) (fun c hc e => by have := owns_base o2.it c hc; have := P1.it.cb.lt; omega)
        have hh := o2.it
        rw [List.nil_append, Nat.zero_add] at hh
        rw [List.length_append, uv_append, List.length_take, Nat.min_eq_left (by have := HN.it; omega)]
        exact hh⟩
      clear e0 e1 e2 e3 g0 g1 g2 g3 d1 o1 o2 k2 k3 O0 KW b2 P3 P2 RX2 R1'
      generalize w3.setCell ⟨b, 1, none⟩ (.slice h0 h1 h2) = W4 at P4 U4 ⊢
      obtain ⟨e0, e1, e2, e3⟩ := Bx2.cs P4
      obtain ⟨g0, g1, g2, g3⟩ := Bx2.fs P4
      obtain ⟨y0, y1, K5⟩ := Bx2.out P4 (.slice ta tn tc) (.slice h0 h1 h2)
      have U5 : Aside (UN w ((W4.setCell ⟨r, 0, none⟩ (.slice ta tn tc)).setCell ⟨r, 1, none⟩ (.slice h0 h1 h2)) (.slice (some ⟨g, o, none⟩) n uc) (.slice h0 h1 h2) (remL ks k)) := ⟨Bx2.un P4 U4.it⟩
      go_wp2
      generalize (W4.setCell ⟨r, 0, none⟩ (.slice ta tn tc)).setCell ⟨r, 1, none⟩ (.slice h0 h1 h2) = W5 at y0 y1 K5 U5 ⊢
      refine bodyPost_ret (v := .tuple #[.agg #[.slice ta tn tc, .slice h0 h1 h2], .bool true]) (by simp [results, Tryz.results21, go_sem, y0, y1]) rfl ?_
      exact ⟨_, by rw [show inT ks k = true from decide_eq_true HK.it], U5, K5⟩
end Go.Proofs.YtnohcbdnhpaafaaGreatDoor

/-
  SchedPlays: the document's First, Served, Ticket, Withdraw
-/
namespace Go.Proofs.YtnohcbdnhpaafaaGreatDoor
open Go.RowKit

variable {w w' W : World} {ks : List Nat} {L : List Tk} {v vt vu x0 x1 y : Value} {b r : Nat}

theorem refFirst0 (ta ua : Option Addr) (tn tc uc : Nat) (w : World) : Calls Tryz.prog 54 #[.agg #[.slice ta tn tc, .slice ua 0 uc]] w fun e w' => e = .returned (.tuple #[.int .u32 0, .bool false]) ∧ Aside (Keeps Nowhere w w') := by
  go_enter Tryz.func54, Tryz.ntmps54
  go_wp2
  go_ret2
  exact ⟨rfl, ⟨(Keeps.refl _ _).alloc _⟩⟩
theorem refFirst1 (ta : Option Addr) (tn tc k : Nat) {t : List Nat} (hu : RdW w vu (k :: t)) : Calls Tryz.prog 54 #[.agg #[.slice ta tn tc, vu]] w fun e w' => e = .returned (.tuple #[.int .u32 k, .bool true]) ∧ Aside (Keeps Nowhere w w') := by
  obtain ⟨ua, uc, rfl, hl1, hm, _, hca⟩ := hu.at
  obtain ⟨g, o, rfl, hc⟩ := hca 0 k rfl
  obtain ⟨n, hn⟩ : ∃ n, n = (k :: t).length := ⟨_, rfl⟩
  have n0 : ¬ (n : Int) = 0 := by rw [hn, List.length_cons]; omega
  have n1 : (0 : Int) < n := by omega
  rw [← hn] at hl1 ⊢
  rw [Nat.add_zero] at hc
  have hc' : ∀ o', (w.alloc o').cell? ⟨g, o, none⟩ = some (.int .u32 k) := fun o' => alloc_cell o' hc
  clear hn hca hu hc
  go_enter Tryz.func54, Tryz.ntmps54
  go_wp2
  go_ret2
  exact ⟨rfl, ⟨(Keeps.refl _ _).alloc _⟩⟩
def TN (w w' : World) (v v' : Value) (L : List Tk) : Prop := RdT w' v' L ∧ ∀ b, v'.ownBlock = some b → v.ownBlock = some b ∨ (w.heap.size ≤ b ∧ b < w'.heap.size)
theorem TN.quiet (h : TN w w' v y L) (k : Keeps Nowhere w' W) : TN w W v y L := ⟨h.1.quiet k, fun b hb => by
  rcases h.2 b hb with h | ⟨h1, h2⟩
  · exact .inl h
  · exact .inr ⟨h1, Nat.lt_of_lt_of_le h2 k.size⟩⟩
theorem TN.mono {w0 : World} (h : TN w w' v y L) (hs : w0.heap.size ≤ w.heap.size) : TN w0 w' v y L := ⟨h.1, fun b hb => by
  rcases h.2 b hb with h | ⟨h1, h2⟩
  · exact .inl h
  · exact .inr ⟨Nat.le_trans hs h1, h2⟩⟩
theorem UN.mono {w0 : World} (h : UN w w' v y ks) (hs : w0.heap.size ≤ w.heap.size) : UN w0 w' v y ks := ⟨h.1, fun b hb => by
  rcases h.2 b hb with h | ⟨h1, h2⟩
  · exact .inl h
  · exact .inr ⟨Nat.le_trans hs h1, h2⟩⟩
theorem owns_TN {B n : Nat} (h : w'.ownsRow B 35 3 v n (flatT L)) (hn : n = L.length) (hB : w.heap.size ≤ B) : TN w w' y v L := ⟨by subst hn; exact owns_readsK h, fun b hb => .inr ⟨Nat.le_trans hB (owns_base h b hb), owns_lt h b hb⟩⟩
theorem Bx2.tn {u0 u1 : Value} (h : Aside (Bx2 w b r x0 x1 W)) (hu : TN w W v y L) : TN w ((W.setCell ⟨r, 0, none⟩ u0).setCell ⟨r, 1, none⟩ u1) v y L :=
  ⟨reads_off hu.1 (Bx2.outK W r u0 u1) h.it.cr (not_sl (flatT_sl L) nil2_sl), fun c hc => by
    rcases hu.2 c hc with h1 | ⟨h1, h2⟩
    · exact .inl h1
    · exact .inr ⟨h1, Nat.lt_of_lt_of_le h2 (Bx2.outK W r u0 u1).size⟩⟩
/-- the copy's own box is written over: lists stay -/
theorem Bx2.tnB {j : Nat} {u : Value} (h : Aside (Bx2 w b r x0 x1 W)) (h0 : isSl x0 = true) (h1 : isSl x1 = true) (hu : TN w W v y L) : TN w (W.setCell ⟨b, j, none⟩ u) v y L := by
  have k : Keeps (fun c => c = b) W (W.setCell ⟨b, j, none⟩ u) := (Keeps.refl (fun c => c = b) W).setCell ⟨b, j, none⟩ u (fun _ => rfl)
  exact ⟨reads_off hu.1 k h.it.cb (not_sl (flatT_sl L) (fun z hz => by
    simp only [List.mem_cons, List.not_mem_nil, or_false] at hz
    rcases hz with rfl | rfl
    · exact h0
    · exact h1)), fun c hc => by
    rcases hu.2 c hc with h1 | ⟨h1, h2⟩
    · exact .inl h1
    · exact .inr ⟨h1, Nat.lt_of_lt_of_le h2 k.size⟩⟩
theorem Bx2.unB {j : Nat} {u : Value} (h : Aside (Bx2 w b r x0 x1 W)) (h0 : isSl x0 = true) (h1 : isSl x1 = true) (hu : UN w W v y ks) : UN w (W.setCell ⟨b, j, none⟩ u) v y ks := by
  have k : Keeps (fun c => c = b) W (W.setCell ⟨b, j, none⟩ u) := (Keeps.refl (fun c => c = b) W).setCell ⟨b, j, none⟩ u (fun _ => rfl)
  exact ⟨reads_off hu.1 k h.it.cb (not_sl (uv_sl ks) (fun z hz => by
    simp only [List.mem_cons, List.not_mem_nil, or_false] at hz
    rcases hz with rfl | rfl
    · exact h0
    · exact h1)), fun c hc => by
    rcases hu.2 c hc with h1 | ⟨h1, h2⟩
    · exact .inl h1
    · exact .inr ⟨h1, Nat.lt_of_lt_of_le h2 k.size⟩⟩
set_option maxHeartbeats 2000000 in
theorem refTicket (t : Tk) (ua : Option Addr) (un uc : Nat) (hv : RdT w vt L) (ht : t.Wide) (hu : L.Pairwise (fun x y => x.k = y.k → x.s = y.s → ¬ Single x.k)) (hw : ∀ x ∈ L, x.Wide) (hb : L.length * 16 + 16 ≤ 140737488355328) :
    Calls Tryz.prog 16 #[.agg #[vt, .slice ua un uc], tkv t.k t.s t.v] w fun e w' => ∃ v', e = .returned (.tuple #[.agg #[v', .slice ua un uc], .int .i64 (putL L t).2]) ∧ Aside (TN w w' vt v' (putL L t).1) ∧ Aside (Keeps Nowhere w w') := by
  obtain ⟨ta, tc, hvt, _, _, _⟩ := hv.at
  subst hvt
  obtain ⟨n, hn⟩ : ∃ n, n = L.length := ⟨_, rfl⟩
  obtain ⟨W0, hW0⟩ : ∃ W0, W0 = ((w.alloc (.cells #[.slice ta L.length tc, .slice ua un uc] 29)).alloc (.cells #[.int .i64 t.k, .int .u32 t.s, .int .u32 t.v] 35)).alloc (.cells #[.slice none 0 0, .slice none 0 0] 29) := ⟨_, rfl⟩
  have P0 : Aside (Bx2 w w.heap.size (w.heap.size + 1 + 1) (.slice ta L.length tc) (.slice ua un uc) W0) := by
    have c := Cells.new ((w.alloc (.cells #[.slice ta L.length tc, .slice ua un uc] 29)).alloc (.cells #[.int .i64 t.k, .int .u32 t.s, .int .u32 t.v] 35)) 29 [.slice none 0 0, .slice none 0 0]
    rw [World.size_alloc, World.size_alloc] at c
    rw [hW0]
    exact ⟨⟨(Cells.new w 29 [.slice ta L.length tc, .slice ua un uc]).later (((Keeps.refl Nowhere _).alloc _).alloc _) (fun x => x), c, (((Keeps.refl _ _).alloc _).alloc _).alloc _, by omega, Nat.le_refl _, by omega⟩⟩
  have T0 : Aside (Cells W0 (w.heap.size + 1) 35 [.int .i64 t.k, .int .u32 t.s, .int .u32 t.v]) := by
    have c := Cells.new (w.alloc (.cells #[.slice ta L.length tc, .slice ua un uc] 29)) 35 [.int .i64 t.k, .int .u32 t.s, .int .u32 t.v]
    rw [World.size_alloc] at c
    rw [hW0]
    exact ⟨c.later ((Keeps.refl Nowhere _).alloc _) (fun x => x)⟩
  have PR := Aside.mk (putR (w := W0) (.slice ta L.length tc) L t (hv.quiet P0.it.k) ht hu hw hb)
  have HV := Aside.mk hv
  rw [← hn] at hW0 P0 PR ⊢
  rw [← hn] at HV
  have HN := Aside.mk hn
  clear hv hn hu hw ht hb
  obtain ⟨d0, d1, d2, d3⟩ := Bx2.cs P0
  have t0 := T0.it.cell 0
  have t1 := T0.it.cell 1
  have t2 := T0.it.cell 2
  simp only [List.getElem?_cons_zero, List.getElem?_cons_succ] at t0 t1 t2
  go_enter Tryz.func16, Tryz.ntmps16
  go_upto_region 1 with fail
  rw [← hW0]
  clear hW0
  obtain ⟨b, hbb⟩ : ∃ b, Aside (b = w.heap.size) := ⟨_, ⟨rfl⟩⟩
  obtain ⟨bt, hbt⟩ : ∃ bt, Aside (bt = w.heap.size + 1) := ⟨_, ⟨rfl⟩⟩
  obtain ⟨r, hrr⟩ : ∃ r, Aside (r = w.heap.size + 1 + 1) := ⟨_, ⟨rfl⟩⟩
  rw [← hrr.it] at P0 d2 d3
  rw [← hbt.it] at t0 t1 t2
  rw [← hbb.it] at P0 d0 d1
  rw [show w.heap.size + 2 = r from hrr.it.symm, ← hbt.it, ← hbb.it]
  obtain ⟨pe, hpe⟩ : ∃ pe, (putL L t).2 = pe := ⟨_, rfl⟩
  rw [hpe] at PR
  have HPE := Aside.mk hpe
  clear hpe
  go_upto_region 2 with (first | (go_at_call 43; refine PR.it.mono ?_; rintro e w1 ⟨v1, rfl, hr1, k1⟩) | fail)
  have P1 := Bx2.quiet P0 k1.it
  have T1 : Aside (TN w w1 (.slice ta n tc) v1 (putL L t).1) := ⟨by
    rcases hr1.it with ⟨e1, e2⟩ | e1
    · rw [e1, e2]; exact ⟨HV.it.quiet P1.it.k, fun c hc => .inl hc⟩
    · exact owns_TN e1 rfl P0.it.k.size⟩
  obtain ⟨h0, h2, hv1, _, _, _⟩ := T1.it.1.at
  generalize (putL L t).1.length = h1 at hv1
  subst hv1
  clear hr1 PR P0 d0 d1 d2 d3 t0 t1 t2 T0 HV
  obtain ⟨e0, e1, e2, e3⟩ := Bx2.cs P1
  obtain ⟨g0, g1, g2, g3⟩ := Bx2.fs P1
  go_upto_region 3 with fail
  have P2 := Bx2.set P1 0 (.slice h0 h1 h2)
  simp only [if_true, if_neg (show ¬ (0 : Nat) = 1 by decide)] at P2
  have T2 := Aside.mk (Bx2.tnB (j := 0) (u := .slice h0 h1 h2) P1 rfl rfl T1.it)
  clear e0 e1 e2 e3 g0 g1 g2 g3
  generalize w1.setCell ⟨b, 0, none⟩ (.slice h0 h1 h2) = W2 at P2 T2 ⊢
  obtain ⟨e0, e1, e2, e3⟩ := Bx2.cs P2
  obtain ⟨g0, g1, g2, g3⟩ := Bx2.fs P2
  obtain ⟨y0, y1, K5⟩ := Bx2.out P2 (.slice h0 h1 h2) (.slice ua un uc)
  have T5 := Aside.mk (Bx2.tn (u0 := .slice h0 h1 h2) (u1 := (.slice ua un uc)) P2 T2.it)
  go_wp2
  generalize (W2.setCell ⟨r, 0, none⟩ (.slice h0 h1 h2)).setCell ⟨r, 1, none⟩ (.slice ua un uc) = W5 at y0 y1 K5 T5 ⊢
  refine bodyPost_ret (v := .tuple #[.agg #[.slice h0 h1 h2, (.slice ua un uc)], .int .i64 pe]) (by simp [results, Tryz.results16, go_sem, y0, y1]) rfl ?_
  exact ⟨_, by rw [HPE.it], T5, K5⟩

set_option maxHeartbeats 2000000 in
theorem refWithdraw (kind : Int) (s : Nat) (ua : Option Addr) (un uc : Nat) (hv : RdT w vt L) (hb : L.length * 16 ≤ 140737488355328) :
    Calls Tryz.prog 18 #[.agg #[vt, .slice ua un uc], .int .i64 kind, .int .u32 s] w fun e w' => ∃ v', e = .returned (.tuple #[.agg #[v', .slice ua un uc], .bool (L.any (isT kind s))]) ∧ Aside (TN w w' vt v' (L.eraseP (isT kind s))) ∧ Aside (Keeps Nowhere w w') := by
  obtain ⟨ta, tc, hvt, _, _, _⟩ := hv.at
  subst hvt
  have P0 := Bx2.start w (.slice ta L.length tc) (.slice ua un uc)
  obtain ⟨n, hn⟩ : ∃ n, n = L.length := ⟨_, rfl⟩
  obtain ⟨W0, hW0⟩ : ∃ W0, W0 = (w.alloc (.cells #[.slice ta L.length tc, .slice ua un uc] 29)).alloc (.cells #[.slice none 0 0, .slice none 0 0] 29) := ⟨_, rfl⟩
  rw [← hW0] at P0
  have FD := Aside.mk (findR (w := W0) (.slice ta L.length tc) L kind s (hv.quiet P0.it.k))
  have WO := Aside.mk (fun W (k : Keeps Nowhere w W) (i : Nat) (hi : i < L.length) => withoutR (w := W) (.slice ta L.length tc) L i (hv.quiet k) hi hb)
  have HV := Aside.mk hv
  rw [← hn] at hW0 P0 FD ⊢
  rw [← hn] at HV
  simp only [← hn] at WO
  have HN := Aside.mk hn
  clear hv hn hb
  obtain ⟨d0, d1, d2, d3⟩ := Bx2.cs P0
  go_enter Tryz.func18, Tryz.ntmps18
  go_upto_region 1 with fail
  rw [← hW0]
  clear hW0
  obtain ⟨b, hbb⟩ : ∃ b, Aside (b = w.heap.size) := ⟨_, ⟨rfl⟩⟩
  obtain ⟨r, hrr⟩ : ∃ r, Aside (r = w.heap.size + 1) := ⟨_, ⟨rfl⟩⟩
  rw [← hrr.it, ← hbb.it] at P0 ⊢
  rw [← hrr.it] at d2 d3
  rw [← hbb.it] at d0 d1
  have ef : fndI L kind s = match L.findIdx? (isT kind s) with | some i => (i : Int) | none => -1 := rfl
  cases hf : L.findIdx? (isT kind s) with
  | none =>
    rw [hf] at ef
    simp only at ef
    rw [ef] at FD
    have HE := Aside.mk (erase_none L (isT kind s) hf)
    clear ef hf WO
    go_upto_region 3 with (first | (go_at_call 46; refine FD.it.mono ?_; rintro e w1 ⟨rfl, k1⟩) | fail)
    have P1 := Bx2.quiet P0 k1.it
    clear d0 d1 d2 d3 FD P0
    obtain ⟨e0, e1, e2, e3⟩ := Bx2.cs P1
    obtain ⟨g0, g1, g2, g3⟩ := Bx2.fs P1
    obtain ⟨y0, y1, K5⟩ := Bx2.out P1 (.slice ta n tc) (.slice ua un uc)
    go_wp2
    generalize (w1.setCell ⟨r, 0, none⟩ (.slice ta n tc)).setCell ⟨r, 1, none⟩ (.slice ua un uc) = W5 at y0 y1 K5 ⊢
    refine bodyPost_ret (v := .tuple #[.agg #[.slice ta n tc, .slice ua un uc], .bool false]) (by simp [results, Tryz.results18, go_sem, y0, y1]) rfl ?_
    refine ⟨_, by rw [HE.it.2], ⟨?_⟩, K5⟩
    rw [HE.it.1]
    exact ⟨HV.it.quiet K5.it, fun c hc => .inl hc⟩
  | some i =>
    rw [hf] at ef
    simp only at ef
    rw [ef] at FD
    have hi0 : ¬ (i : Int) < 0 := by omega
    have HE := Aside.mk (erase_some L (isT kind s) i hf)
    have hin : i < n := by have := HE.it.2.2; have := HN.it; omega
    clear ef hf
    go_upto_region 4 with (first | (go_at_call 46; refine FD.it.mono ?_; rintro e w1 ⟨rfl, k1⟩) | fail)
    have P1' := Bx2.quiet P0 k1.it
    clear d0 d1 d2 d3 FD P0
    obtain ⟨d0, d1, d2, d3⟩ := Bx2.cs P1'
    have WX := Aside.mk (WO.it w1 P1'.it.k i hin)
    go_upto_region 5 with (first | (go_at_call 47; refine WX.it.mono ?_; rintro e w2 ⟨v1, rfl, o1, k2⟩; obtain ⟨h0, h1, h2, hv1⟩ := owns_shapeK o1.it; subst hv1; have P1 := Bx2.quiet P1' k2.it; obtain ⟨e0, e1, e2, e3⟩ := Bx2.cs P1; obtain ⟨g0, g1, g2, g3⟩ := Bx2.fs P1) | fail)
    have T1 : Aside (TN w w2 (.slice ta n tc) (.slice h0 h1 h2) (L.eraseP (isT kind s))) := ⟨by rw [HE.it.1]; exact owns_TN o1.it (by rw [List.length_append, List.length_take, List.length_drop]; have := HE.it.2.2; have := HN.it; omega) P1'.it.k.size⟩
    clear o1 WX P1' d0 d1 d2 d3 e0 e1 e2 e3 g0 g1 g2 g3
    obtain ⟨e0, e1, e2, e3⟩ := Bx2.cs P1
    obtain ⟨g0, g1, g2, g3⟩ := Bx2.fs P1
    have P2 := Bx2.set P1 0 (.slice h0 h1 h2)
    simp only [if_true, if_neg (show ¬ (0 : Nat) = 1 by decide)] at P2
    have T2 := Aside.mk (Bx2.tnB (j := 0) (u := .slice h0 h1 h2) P1 rfl rfl T1.it)
    clear e0 e1 e2 e3 g0 g1 g2 g3
    generalize w2.setCell ⟨b, 0, none⟩ (.slice h0 h1 h2) = W2 at P2 T2 ⊢
    obtain ⟨e0, e1, e2, e3⟩ := Bx2.cs P2
    obtain ⟨g0, g1, g2, g3⟩ := Bx2.fs P2
    obtain ⟨y0, y1, K5⟩ := Bx2.out P2 (.slice h0 h1 h2) (.slice ua un uc)
    have T5 := Aside.mk (Bx2.tn (u0 := .slice h0 h1 h2) (u1 := (.slice ua un uc)) P2 T2.it)
    go_wp2
    generalize (W2.setCell ⟨r, 0, none⟩ (.slice h0 h1 h2)).setCell ⟨r, 1, none⟩ (.slice ua un uc) = W5 at y0 y1 K5 T5 ⊢
    refine bodyPost_ret (v := .tuple #[.agg #[.slice h0 h1 h2, (.slice ua un uc)], .bool true]) (by simp [results, Tryz.results18, go_sem, y0, y1]) rfl ?_
    exact ⟨_, by rw [HE.it.2.1], T5, K5⟩

end Go.Proofs.YtnohcbdnhpaafaaGreatDoor

/-
  SchedPlays: the document's Forget, Served
-/
namespace Go.Proofs.YtnohcbdnhpaafaaGreatDoor
open Go.RowKit

variable {w w' W : World} {ks : List Nat} {L : List Tk} {v vt vu x0 x1 y : Value} {b r : Nat}

set_option maxHeartbeats 2000000 in
theorem refForget (s : Nat) (hv : RdT w vt L) (hu : RdW w vu ks) (hb : L.length * 16 ≤ 140737488355328) (hb2 : ks.length * 4 ≤ 140737488355328) :
    Calls Tryz.prog 23 #[.agg #[vt, vu], .int .u32 s] w fun e w' => ∃ v1 v2, e = .returned (.tuple #[.agg #[v1, v2], .int .i64 (L.countP (fun t => decide (t.s = s)))]) ∧ Aside (TN w w' vt v1 (L.filter (fun t => !decide (t.s = s)))) ∧ Aside (UN w w' vu v2 (remL ks s)) ∧ Aside (Keeps Nowhere w w') := by
  obtain ⟨ta, tc, hvt, _, _, _⟩ := hv.at
  obtain ⟨ua, uc, hvu, _, _, _, _⟩ := hu.at
  subst hvt hvu
  have P0 := Bx2.start w (.slice ta L.length tc) (.slice ua ks.length uc)
  obtain ⟨n, hn⟩ : ∃ n, n = L.length := ⟨_, rfl⟩
  obtain ⟨m, hm⟩ : ∃ m, m = ks.length := ⟨_, rfl⟩
  obtain ⟨W0, hW0⟩ : ∃ W0, W0 = (w.alloc (.cells #[.slice ta L.length tc, .slice ua ks.length uc] 29)).alloc (.cells #[.slice none 0 0, .slice none 0 0] 29) := ⟨_, rfl⟩
  rw [← hW0] at P0
  have FG := Aside.mk (forgetR (w := W0) (.slice ta L.length tc) L s (hv.quiet P0.it.k) hb)
  have RS := Aside.mk (fun W (h : RdW W (.slice ua ks.length uc) ks) (a : Option Addr) (i c : Nat) => refRest (w := W) a i c s h hb2)
  have HU := Aside.mk hu
  rw [← hn, ← hm] at hW0 P0 ⊢
  rw [← hn] at FG
  rw [← hm] at HU
  simp only [← hm] at RS
  obtain ⟨cn, hcn⟩ : ∃ cn, L.countP (fun t => decide (t.s = s)) = cn := ⟨_, rfl⟩
  rw [hcn] at FG
  have HCN := Aside.mk hcn
  clear hv hu hn hm hb hb2 hcn
  obtain ⟨d0, d1, d2, d3⟩ := Bx2.cs P0
  go_enter Tryz.func23, Tryz.ntmps23
  go_upto_region 1 with fail
  rw [← hW0]
  clear hW0
  obtain ⟨b, hbb⟩ : ∃ b, Aside (b = w.heap.size) := ⟨_, ⟨rfl⟩⟩
  obtain ⟨r, hrr⟩ : ∃ r, Aside (r = w.heap.size + 1) := ⟨_, ⟨rfl⟩⟩
  rw [← hrr.it, ← hbb.it] at P0 ⊢
  rw [← hrr.it] at d2 d3
  rw [← hbb.it] at d0 d1
  go_upto_region 2 with (first | (go_at_call 51; refine FG.it.mono ?_; rintro e w1 ⟨v1, rfl, o1, k1⟩; obtain ⟨h0, h1, h2, hv1⟩ := owns_shapeK o1.it; subst hv1) | fail)
  have P1 := Bx2.quiet P0 k1.it
  have T1 : Aside (TN w w1 (.slice ta n tc) (.slice h0 h1 h2) (L.filter (fun t => !decide (t.s = s)))) := ⟨owns_TN o1.it rfl P0.it.k.size⟩
  clear d0 d1 d2 d3 FG o1 P0
  obtain ⟨e0, e1, e2, e3⟩ := Bx2.cs P1
  obtain ⟨g0, g1, g2, g3⟩ := Bx2.fs P1
  go_upto_region 3 with fail
  have P2 := Bx2.set P1 0 (.slice h0 h1 h2)
  simp only [if_true, if_neg (show ¬ (0 : Nat) = 1 by decide)] at P2
  have T2 := Aside.mk (Bx2.tnB (j := 0) (u := .slice h0 h1 h2) P1 rfl rfl T1.it)
  clear e0 e1 e2 e3 g0 g1 g2 g3
  generalize w1.setCell ⟨b, 0, none⟩ (.slice h0 h1 h2) = W2 at P2 T2 ⊢
  obtain ⟨e0, e1, e2, e3⟩ := Bx2.cs P2
  have RX := Aside.mk (RS.it W2 (HU.it.quiet P2.it.k) h0 h1 h2)
  go_upto_region 4 with (first | (go_at_call 21; refine RX.it.mono ?_; rintro e w3 ⟨v2, rfl, U3, k3⟩; obtain ⟨u0, u2, hv2, _, _, _, _⟩ := U3.it.1.at; generalize (remL ks s).length = u1 at hv2; subst hv2; have P3 := Bx2.quiet P2 k3.it; obtain ⟨f0, f1, f2, f3⟩ := Bx2.cs P3; obtain ⟨g0, g1, g2, g3⟩ := Bx2.fs P3) | fail)
  have P4 := Bx2.set (Bx2.set P3 0 (.slice h0 h1 h2)) 1 (.slice u0 u1 u2)
  simp only [if_true, if_neg (show ¬ (0 : Nat) = 1 by decide), if_neg (show ¬ (1 : Nat) = 0 by decide)] at P4
  have P3' := Bx2.set P3 0 (.slice h0 h1 h2)
  simp only [if_true, if_neg (show ¬ (0 : Nat) = 1 by decide)] at P3'
  have T4 := Aside.mk (Bx2.tnB (j := 1) (u := .slice u0 u1 u2) P3' rfl rfl (Bx2.tnB (j := 0) (u := .slice h0 h1 h2) P3 rfl rfl (T2.it.quiet k3.it)))
  have U4 := Aside.mk (Bx2.unB (j := 1) (u := .slice u0 u1 u2) P3' rfl rfl (Bx2.unB (j := 0) (u := .slice h0 h1 h2) P3 rfl rfl (U3.it.mono P2.it.k.size)))
  clear f0 f1 f2 f3 g0 g1 g2 g3 e0 e1 e2 e3 P3 P3' RX RS T2 U3
  generalize ((w3.setCell ⟨b, 0, none⟩ (.slice h0 h1 h2)).setCell ⟨b, 1, none⟩ (.slice u0 u1 u2)) = W4 at P4 T4 U4 ⊢
  obtain ⟨e0, e1, e2, e3⟩ := Bx2.cs P4
  obtain ⟨g0, g1, g2, g3⟩ := Bx2.fs P4
  obtain ⟨y0, y1, K5⟩ := Bx2.out P4 (.slice h0 h1 h2) (.slice u0 u1 u2)
  have T5 := Aside.mk (Bx2.tn (u0 := .slice h0 h1 h2) (u1 := .slice u0 u1 u2) P4 T4.it)
  have U5 := Aside.mk (Bx2.un (u0 := .slice h0 h1 h2) (u1 := .slice u0 u1 u2) P4 U4.it)
  go_wp2
  generalize (W4.setCell ⟨r, 0, none⟩ (.slice h0 h1 h2)).setCell ⟨r, 1, none⟩ (.slice u0 u1 u2) = W5 at y0 y1 K5 T5 U5 ⊢
  refine bodyPost_ret (v := .tuple #[.agg #[.slice h0 h1 h2, .slice u0 u1 u2], .int .i64 cn]) (by simp [results, Tryz.results23, go_sem, y0, y1]) rfl ?_
  exact ⟨_, _, by rw [HCN.it], T5, U5, K5⟩
end Go.Proofs.YtnohcbdnhpaafaaGreatDoor

/-
  SchedPlays: the document's Served
-/
namespace Go.Proofs.YtnohcbdnhpaafaaGreatDoor
open Go.RowKit

variable {w w' W : World} {ks : List Nat} {L : List Tk} {v vt vu x0 x1 y : Value} {b r : Nat}

theorem Bx2.app {W0 w4 : World} {o : Obj} {n : Nat} {xs : List Value} {y0 y1 : Value} (h : Aside (Bx2 w b r x0 x1 W)) (ho : W.ownsRow W0.heap.size 33 1 v n xs) (h0 : Bx2 w b r y0 y1 W0) (k : Keeps (fun c => v.ownBlock = some c) (W.alloc o) w4) : Aside (Bx2 w b r x0 x1 w4) := by
  have ka : Keeps Nowhere W (W.alloc o) := (Keeps.refl _ _).alloc _
  have nb : ¬ v.ownBlock = some b := fun e => by have := owns_base ho b e; have := h0.cb.lt; omega
  have nr : ¬ v.ownBlock = some r := fun e => by have := owns_base ho r e; have := h0.cr.lt; omega
  exact ⟨⟨(h.it.cb.later ka (fun x => x)).later k nb, (h.it.cr.later ka (fun x => x)).later k nr, (h.it.k.trans ka).next k (fun c hc hlt => by have := owns_base ho c hc; have := h0.k.size; omega), h.it.ne, h.it.hb, h.it.hr⟩⟩
set_option maxHeartbeats 4000000 in
theorem refServed (ta : Option Addr) (tn tc k : Nat) {t : List Nat} (more : Bool) (hu : RdW w vu (k :: t)) (hb : (k :: t).length * 4 ≤ 140737488355328) :
    Calls Tryz.prog 56 #[.agg #[.slice ta tn tc, vu], .bool more] w fun e w' => ∃ v', e = .returned (.agg #[.slice ta tn tc, v']) ∧ Aside (UN w w' vu v' (if more then t ++ [k] else t)) ∧ Aside (Keeps Nowhere w w') := by
  obtain ⟨ua, uc, hvu, hl1, hm, _, hca⟩ := hu.at
  obtain ⟨g, o, rfl, hx⟩ := hca 0 k rfl
  have P0 := Bx2.start w (.slice ta tn tc) vu
  obtain ⟨W0, hW0⟩ : ∃ W0, W0 = (w.alloc (.cells #[.slice ta tn tc, vu] 29)).alloc (.cells #[.slice none 0 0, .slice none 0 0] 29) := ⟨_, rfl⟩
  rw [← hW0] at P0
  subst hvu
  have R2 := Aside.mk (hu.drop (k := 1) (by simp))
  obtain ⟨n, hn⟩ : ∃ n, n = (k :: t).length := ⟨_, rfl⟩
  rw [← hn] at hl1 hb hW0 P0 R2 ⊢
  rw [Nat.add_zero] at hx
  replace hx : W0.cell? ⟨g, o, none⟩ = some (.int .u32 k) := by rw [P0.it.k.bel.cell (World.block_lt_of_cell? w _ hx)]; exact hx
  have HN : Aside (n = t.length + 1) := ⟨hn⟩
  have n0 : (0 : Int) < n := by rw [hn, List.length_cons]; omega
  have n1 : (n : Int) ≤ 140737488355328 := by omega
  have n3 : (n : Int) ≤ uc := by omega
  clear hn hca hu hm
  obtain ⟨d0, d1, d2, d3⟩ := Bx2.cs P0
  go_enter Tryz.func56, Tryz.ntmps56
  go_upto_region 1 with fail
  rw [← hW0]
  clear hW0
  obtain ⟨b, hbb⟩ : ∃ b, Aside (b = w.heap.size) := ⟨_, ⟨rfl⟩⟩
  obtain ⟨r, hrr⟩ : ∃ r, Aside (r = w.heap.size + 1) := ⟨_, ⟨rfl⟩⟩
  rw [← hrr.it, ← hbb.it] at P0 ⊢
  rw [← hrr.it] at d2 d3
  rw [← hbb.it] at d0 d1
  go_upto_region 2 with fail
  clear d0 d2 d3
  have d1' : ∀ o', (W0.alloc o').cell? ⟨b, 1, none⟩ = some (.slice (some ⟨g, o, none⟩) n uc) := fun o' => alloc_cell o' d1
  clear d1
  have d1 := d1'
  clear d1'
  have O0 := Aside.mk (litU W0 W0.heap.size (Nat.le_refl _))
  have K0 : Aside (Keeps Nowhere W0 (W0.alloc (.cells #[] 33))) := ⟨(Keeps.refl _ _).alloc _⟩
  have KW : Aside (∀ w2, Keeps (fun c => (Value.slice (some ⟨W0.heap.size, 0, none⟩) 0 0).ownBlock = some c) (W0.alloc (.cells #[] 33)) w2 → Keeps Nowhere W0 w2) := ⟨fun w2 h => K0.it.next h (fun c hc hlt => by
    have : W0.heap.size = c := by simpa [Value.ownBlock] using hc
    omega)⟩
  by_cases hc : uc = 1
  · have RX2 : Aside (ReadsK 1 (W0.alloc (.cells #[] 33)) (.slice (some ⟨g, o, none⟩) 0 0) t.length (uv t)) := ⟨by
      have e : t = [] := List.eq_nil_of_length_eq_zero (by have := HN.it; omega)
      rw [e]
      exact rdW_none (Nat.zero_le _) (fun h => by cases h)⟩
    subst hc
    have hn1 : n = 1 := by omega
    subst hn1
    clear R2
    go_upto_region 3 with (first
      | (at_builtin; refine wpList_appendR rfl (.tmp 10) (.tmp 13) 27 rfl 33 (.int .u32 0) 1 4 Tryz.underlying27 u32info rfl (by decide) _ (Keeps.refl _ _) W0.heap.size _ _ _ O0.it _ t.length _ RX2.it (uv_one _) (by have := HN.it; omega) (by unfold maxLen; have := HN.it; omega) K0.it.size rfl rfl ?_; intro v1 w2 o1 k2 b2; obtain ⟨h0, h1, h2, hv1⟩ := owns_shapeK o1.it; subst hv1; have P2 := Bx2.quiet P0 (KW.it w2 k2.it); obtain ⟨e0, e1, e2, e3⟩ := Bx2.cs P2; obtain ⟨g0, g1, g2, g3⟩ := Bx2.fs P2)
      | fail)
    have P3 := Bx2.set P2 1 (.slice h0 h1 h2)
    simp only [if_true, if_neg (show ¬ (1 : Nat) = 0 by decide)] at P3
    have O3 : Aside ((w2.setCell ⟨b, 1, none⟩ (.slice h0 h1 h2)).ownsRow W0.heap.size 33 1 (.slice h0 h1 h2) t.length (uv t)) := ⟨by
      have hh := o1.it
      rw [List.nil_append, Nat.zero_add] at hh
      exact owns_later (S := fun c => c = b) hh ((Keeps.refl _ _).setCell _ _ (fun _ => rfl)) (fun c hc e => by have := owns_base o1.it c hc; have := P0.it.cb.lt; omega)⟩
    have HSZ : Aside (W0.heap.size ≤ (w2.setCell ⟨b, 1, none⟩ (.slice h0 h1 h2)).heap.size) := ⟨((KW.it w2 k2.it).any.setCell (S := fun _ => True) _ _ (fun _ => trivial)).size⟩
    clear e0 e1 e2 e3 g0 g1 g2 g3 d1 o1 O0 KW b2 RX2 P2 k2 hx
    generalize w2.setCell ⟨b, 1, none⟩ (.slice h0 h1 h2) = W3 at P3 O3 HSZ ⊢
    obtain ⟨e0, e1, e2, e3⟩ := Bx2.cs P3
    obtain ⟨g0, g1, g2, g3⟩ := Bx2.fs P3
    cases more
    · obtain ⟨y0, y1, K5⟩ := Bx2.out P3 (.slice ta tn tc) (.slice h0 h1 h2)
      have U5 := Aside.mk (Bx2.un (u0 := .slice ta tn tc) (u1 := .slice h0 h1 h2) (v := .slice (some ⟨g, o, none⟩) 1 1) P3 (owns_UN (w := w) O3.it P0.it.k.size))
      go_wp2
      generalize (W3.setCell ⟨r, 0, none⟩ (.slice ta tn tc)).setCell ⟨r, 1, none⟩ (.slice h0 h1 h2) = W5 at y0 y1 K5 U5 ⊢
      refine bodyPost_ret (v := .agg #[.slice ta tn tc, .slice h0 h1 h2]) (by simp [results, Tryz.results56, go_sem, y0, y1]) rfl ?_
      exact ⟨_, rfl, U5, K5⟩
    · have f1 : ∀ o', (W3.alloc o').cell? ⟨b, 1, none⟩ = some (.slice h0 h1 h2) := fun o' => alloc_cell o' e1
      clear g0 g1 g2 g3
      go_upto_region 5 with (first
        | (at_builtin; refine wpList_appendR rfl (.tmp 18) (.tmp 20) 27 rfl 33 (.int .u32 0) 1 4 Tryz.underlying27 u32info rfl (by decide) W3 ((Keeps.refl _ _).alloc _) W0.heap.size _ _ _ O3.it _ 1 [.int .u32 k] (readsK_new _ _ _) (fun x hx => by rw [List.mem_singleton.1 hx]; rfl) (by have := HN.it; omega) (by unfold maxLen; have := HN.it; omega) HSZ.it rfl rfl ?_; intro v2 w4 o2 k4 _; obtain ⟨i0, i1, i2, hv2⟩ := owns_shapeK o2.it; subst hv2; have P4 := Bx2.app P3 O3.it P0.it k4.it; obtain ⟨q0, q1, q2, q3⟩ := Bx2.cs P4; obtain ⟨g0, g1, g2, g3⟩ := Bx2.fs P4)
        | fail)
      have P5 := Bx2.set P4 1 (.slice i0 i1 i2)
      simp only [if_true, if_neg (show ¬ (1 : Nat) = 0 by decide)] at P5
      have O5 : Aside ((w4.setCell ⟨b, 1, none⟩ (.slice i0 i1 i2)).ownsRow W0.heap.size 33 1 (.slice i0 i1 i2) (t ++ [k]).length (uv (t ++ [k]))) := ⟨by
        have hh := o2.it
        rw [List.length_append, uv_append]
        exact owns_later (S := fun c => c = b) hh ((Keeps.refl _ _).setCell _ _ (fun _ => rfl)) (fun c hc e => by have := owns_base o2.it c hc; have := P0.it.cb.lt; omega)⟩
      clear e0 e1 e2 e3 g0 g1 g2 g3 q0 q1 q2 q3 f1 o2 P4 k4
      generalize w4.setCell ⟨b, 1, none⟩ (.slice i0 i1 i2) = W5 at P5 O5 ⊢
      obtain ⟨e0, e1, e2, e3⟩ := Bx2.cs P5
      obtain ⟨g0, g1, g2, g3⟩ := Bx2.fs P5
      obtain ⟨y0, y1, K5⟩ := Bx2.out P5 (.slice ta tn tc) (.slice i0 i1 i2)
      have U5 := Aside.mk (Bx2.un (u0 := .slice ta tn tc) (u1 := .slice i0 i1 i2) (v := .slice (some ⟨g, o, none⟩) 1 1) P5 (owns_UN (w := w) O5.it P0.it.k.size))
      go_wp2
      generalize (W5.setCell ⟨r, 0, none⟩ (.slice ta tn tc)).setCell ⟨r, 1, none⟩ (.slice i0 i1 i2) = W6 at y0 y1 K5 U5 ⊢
      refine bodyPost_ret (v := .agg #[.slice ta tn tc, .slice i0 i1 i2]) (by simp [results, Tryz.results56, go_sem, y0, y1]) rfl ?_
      exact ⟨_, rfl, U5, K5⟩
  · have hc' : ¬ (uc : Int) = 1 := by omega
    have RX2 : Aside (ReadsK 1 (W0.alloc (.cells #[] 33)) (.slice (some ⟨g, o + 1, none⟩) (n - 1) (uc - 1)) t.length (uv t)) := ⟨(R2.it.quiet P0.it.k).quiet K0.it⟩
    clear R2
    go_upto_region 3 with (first
      | (at_builtin; refine wpList_appendR rfl (.tmp 10) (.tmp 13) 27 rfl 33 (.int .u32 0) 1 4 Tryz.underlying27 u32info rfl (by decide) _ (Keeps.refl _ _) W0.heap.size _ _ _ O0.it _ t.length _ RX2.it (uv_one _) (by have := HN.it; omega) (by unfold maxLen; have := HN.it; omega) K0.it.size rfl rfl ?_; intro v1 w2 o1 k2 b2; obtain ⟨h0, h1, h2, hv1⟩ := owns_shapeK o1.it; subst hv1; have P2 := Bx2.quiet P0 (KW.it w2 k2.it); obtain ⟨e0, e1, e2, e3⟩ := Bx2.cs P2; obtain ⟨g0, g1, g2, g3⟩ := Bx2.fs P2)
      | fail)
    have P3 := Bx2.set P2 1 (.slice h0 h1 h2)
    simp only [if_true, if_neg (show ¬ (1 : Nat) = 0 by decide)] at P3
    have O3 : Aside ((w2.setCell ⟨b, 1, none⟩ (.slice h0 h1 h2)).ownsRow W0.heap.size 33 1 (.slice h0 h1 h2) t.length (uv t)) := ⟨by
      have hh := o1.it
      rw [List.nil_append, Nat.zero_add] at hh
      exact owns_later (S := fun c => c = b) hh ((Keeps.refl _ _).setCell _ _ (fun _ => rfl)) (fun c hc e => by have := owns_base o1.it c hc; have := P0.it.cb.lt; omega)⟩
    have HSZ : Aside (W0.heap.size ≤ (w2.setCell ⟨b, 1, none⟩ (.slice h0 h1 h2)).heap.size) := ⟨((KW.it w2 k2.it).any.setCell (S := fun _ => True) _ _ (fun _ => trivial)).size⟩
    clear e0 e1 e2 e3 g0 g1 g2 g3 d1 o1 O0 KW b2 RX2 P2 k2 hx
    generalize w2.setCell ⟨b, 1, none⟩ (.slice h0 h1 h2) = W3 at P3 O3 HSZ ⊢
    obtain ⟨e0, e1, e2, e3⟩ := Bx2.cs P3
    obtain ⟨g0, g1, g2, g3⟩ := Bx2.fs P3
    cases more
    · obtain ⟨y0, y1, K5⟩ := Bx2.out P3 (.slice ta tn tc) (.slice h0 h1 h2)
      have U5 := Aside.mk (Bx2.un (u0 := .slice ta tn tc) (u1 := .slice h0 h1 h2) (v := .slice (some ⟨g, o, none⟩) n uc) P3 (owns_UN (w := w) O3.it P0.it.k.size))
      go_wp2
      generalize (W3.setCell ⟨r, 0, none⟩ (.slice ta tn tc)).setCell ⟨r, 1, none⟩ (.slice h0 h1 h2) = W5 at y0 y1 K5 U5 ⊢
      refine bodyPost_ret (v := .agg #[.slice ta tn tc, .slice h0 h1 h2]) (by simp [results, Tryz.results56, go_sem, y0, y1]) rfl ?_
      exact ⟨_, rfl, U5, K5⟩
    · have f1 : ∀ o', (W3.alloc o').cell? ⟨b, 1, none⟩ = some (.slice h0 h1 h2) := fun o' => alloc_cell o' e1
      clear g0 g1 g2 g3
      go_upto_region 5 with (first
        | (at_builtin; refine wpList_appendR rfl (.tmp 18) (.tmp 20) 27 rfl 33 (.int .u32 0) 1 4 Tryz.underlying27 u32info rfl (by decide) W3 ((Keeps.refl _ _).alloc _) W0.heap.size _ _ _ O3.it _ 1 [.int .u32 k] (readsK_new _ _ _) (fun x hx => by rw [List.mem_singleton.1 hx]; rfl) (by have := HN.it; omega) (by unfold maxLen; have := HN.it; omega) HSZ.it rfl rfl ?_; intro v2 w4 o2 k4 _; obtain ⟨i0, i1, i2, hv2⟩ := owns_shapeK o2.it; subst hv2; have P4 := Bx2.app P3 O3.it P0.it k4.it; obtain ⟨q0, q1, q2, q3⟩ := Bx2.cs P4; obtain ⟨g0, g1, g2, g3⟩ := Bx2.fs P4)
        | fail)
      have P5 := Bx2.set P4 1 (.slice i0 i1 i2)
      simp only [if_true, if_neg (show ¬ (1 : Nat) = 0 by decide)] at P5
      have O5 : Aside ((w4.setCell ⟨b, 1, none⟩ (.slice i0 i1 i2)).ownsRow W0.heap.size 33 1 (.slice i0 i1 i2) (t ++ [k]).length (uv (t ++ [k]))) := ⟨by
        have hh := o2.it
        rw [List.length_append, uv_append]
        exact owns_later (S := fun c => c = b) hh ((Keeps.refl _ _).setCell _ _ (fun _ => rfl)) (fun c hc e => by have := owns_base o2.it c hc; have := P0.it.cb.lt; omega)⟩
      clear e0 e1 e2 e3 g0 g1 g2 g3 q0 q1 q2 q3 f1 o2 P4 k4
      generalize w4.setCell ⟨b, 1, none⟩ (.slice i0 i1 i2) = W5 at P5 O5 ⊢
      obtain ⟨e0, e1, e2, e3⟩ := Bx2.cs P5
      obtain ⟨g0, g1, g2, g3⟩ := Bx2.fs P5
      obtain ⟨y0, y1, K5⟩ := Bx2.out P5 (.slice ta tn tc) (.slice i0 i1 i2)
      have U5 := Aside.mk (Bx2.un (u0 := .slice ta tn tc) (u1 := .slice i0 i1 i2) (v := .slice (some ⟨g, o, none⟩) n uc) P5 (owns_UN (w := w) O5.it P0.it.k.size))
      go_wp2
      generalize (W5.setCell ⟨r, 0, none⟩ (.slice ta tn tc)).setCell ⟨r, 1, none⟩ (.slice i0 i1 i2) = W6 at y0 y1 K5 U5 ⊢
      refine bodyPost_ret (v := .agg #[.slice ta tn tc, .slice i0 i1 i2]) (by simp [results, Tryz.results56, go_sem, y0, y1]) rfl ?_
      exact ⟨_, rfl, U5, K5⟩
end Go.Proofs.YtnohcbdnhpaafaaGreatDoor

/-
  SchedPlays: the document's Control
-/
namespace Go.Proofs.YtnohcbdnhpaafaaGreatDoor
open Go.RowKit

variable {w w' W : World} {ks : List Nat} {L : List Tk} {v vt vu x0 x1 y : Value} {b r : Nat}

abbrev hz5 : List Value := [.int .u8 0, .int .u8 0, .int .u16 0, .int .u32 0, .int .u32 0]
/-- the header that a ticket stands for -/
abbrev hdT (t : Tk) : Value := .agg #[.int .u8 0, .int .u8 (shF t.k.toNat), .int .u16 (shG t.k.toNat), .int .u32 t.s, .int .u32 t.v]
theorem frameR0 (t : Tk) (h0 : mayT t = 0) : Calls Tryz.prog 57 #[tkv t.k t.s t.v] w fun e w' => e = .returned (.tuple #[hdT t, .int .i64 0]) ∧ Aside (Keeps Nowhere w w') := by
  have := frameR (w := w) t
  rw [h0] at this
  have e : hd5 t = hv5 (shF t.k.toNat) (shG t.k.toNat) t.s t.v := by unfold hd5; rw [if_pos h0]
  rw [e] at this
  exact this
/-- Control's boxes -/
structure Cx (w : World) (b r rh : Nat) (x0 x1 : Value) (W : World) : Prop where
  p : Aside (Bx2 w b r x0 x1 W)
  h : Cells W rh 44 hz5
  hh : w.heap.size ≤ rh
theorem Cx.quiet {rh : Nat} (h : Aside (Cx w b r rh x0 x1 W)) (k : Keeps Nowhere W w') : Aside (Cx w b r rh x0 x1 w') := ⟨⟨Bx2.quiet h.it.p k, h.it.h.later k (fun x => x), h.it.hh⟩⟩
theorem Cx.five {rh : Nat} (h : Aside (Cx w b r rh x0 x1 W)) : (W.cell? ⟨rh, 0, none⟩ = some (.int .u8 0) ∧ W.cell? ⟨rh, 1, none⟩ = some (.int .u8 0) ∧ W.cell? ⟨rh, 2, none⟩ = some (.int .u16 0) ∧ W.cell? ⟨rh, 3, none⟩ = some (.int .u32 0) ∧ W.cell? ⟨rh, 4, none⟩ = some (.int .u32 0)) ∧ W.frozen? ⟨rh, 0, none⟩ = false ∧ W.frozen? ⟨rh, 1, none⟩ = false ∧ W.frozen? ⟨rh, 2, none⟩ = false ∧ W.frozen? ⟨rh, 3, none⟩ = false ∧ W.frozen? ⟨rh, 4, none⟩ = false :=
  ⟨⟨h.it.h.cell 0, h.it.h.cell 1, h.it.h.cell 2, h.it.h.cell 3, h.it.h.cell 4⟩, h.it.h.frozen 0, h.it.h.frozen 1, h.it.h.frozen 2, h.it.h.frozen 3, h.it.h.frozen 4⟩
def set5 (W : World) (g : Nat) (a0 a1 a2 a3 a4 : Value) : World := ((((W.setCell ⟨g, 0, none⟩ a0).setCell ⟨g, 1, none⟩ a1).setCell ⟨g, 2, none⟩ a2).setCell ⟨g, 3, none⟩ a3).setCell ⟨g, 4, none⟩ a4
theorem set5_keeps (W : World) (g : Nat) (a0 a1 a2 a3 a4 : Value) : Keeps (fun c => c = g) W (set5 W g a0 a1 a2 a3 a4) := by
  have k0 := (Keeps.refl (fun k => k = g) W).setCell ⟨g, 0, none⟩ a0 (fun _ => rfl)
  have k1 := k0.setCell ⟨g, 1, none⟩ a1 (fun _ => rfl)
  have k2 := k1.setCell ⟨g, 2, none⟩ a2 (fun _ => rfl)
  have k3 := k2.setCell ⟨g, 3, none⟩ a3 (fun _ => rfl)
  exact k3.setCell ⟨g, 4, none⟩ a4 (fun _ => rfl)
theorem set5_cells {g : Nat} {T : TypeId} {b0 b1 b2 b3 b4 : Value} (h : Cells W g T [b0, b1, b2, b3, b4]) (a0 a1 a2 a3 a4 : Value) : Cells (set5 W g a0 a1 a2 a3 a4) g T [a0, a1, a2, a3, a4] := ((((h.setCell 0 a0).setCell 1 a1).setCell 2 a2).setCell 3 a3).setCell 4 a4
/-- both answers are laid out -/
theorem Cx.out {rh : Nat} (h : Aside (Cx w b r rh x0 x1 W)) (u0 u1 a0 a1 a2 a3 a4 : Value) :
    let V := set5 ((W.setCell ⟨r, 0, none⟩ u0).setCell ⟨r, 1, none⟩ u1) rh a0 a1 a2 a3 a4
    (V.cell? ⟨r, 0, none⟩ = some u0 ∧ V.cell? ⟨r, 1, none⟩ = some u1) ∧ (V.cell? ⟨rh, 0, none⟩ = some a0 ∧ V.cell? ⟨rh, 1, none⟩ = some a1 ∧ V.cell? ⟨rh, 2, none⟩ = some a2 ∧ V.cell? ⟨rh, 3, none⟩ = some a3 ∧ V.cell? ⟨rh, 4, none⟩ = some a4) ∧ Aside (Keeps Nowhere w V) := by
  intro V
  have hne : r ≠ rh := cells_ne h.it.p.it.cr h.it.h (by decide)
  have c := (h.it.p.it.cr.setCell 0 u0).setCell 1 u1
  have k1 := Bx2.outK W r u0 u1
  have ch := h.it.h.later k1 (fun e => hne e.symm)
  have k2 := set5_keeps ((W.setCell ⟨r, 0, none⟩ u0).setCell ⟨r, 1, none⟩ u1) rh a0 a1 a2 a3 a4
  have cV : Cells V r _ [u0, u1] := c.later k2 hne
  have hV : Cells V rh _ [a0, a1, a2, a3, a4] := set5_cells ch a0 a1 a2 a3 a4
  refine ⟨⟨cV.cell 0, cV.cell 1⟩, ⟨hV.cell 0, hV.cell 1, hV.cell 2, hV.cell 3, hV.cell 4⟩, ⟨?_⟩⟩
  exact ((Bx2.out h.it.p u0 u1).2.2.it).next k2 (fun c e hlt => by subst e; have := h.it.hh; omega)
theorem Cx.outK {rh : Nat} (W : World) (r : Nat) (u0 u1 a0 a1 a2 a3 a4 : Value) : Keeps (fun c => c = r ∨ c = rh) W (set5 ((W.setCell ⟨r, 0, none⟩ u0).setCell ⟨r, 1, none⟩ u1) rh a0 a1 a2 a3 a4) :=
  ((Bx2.outK W r u0 u1).mono (fun _ e _ => .inl e)).trans ((set5_keeps _ rh a0 a1 a2 a3 a4).mono (fun _ e _ => .inr e))
theorem Cx.start (w : World) (x0 x1 : Value) : Aside (Cx w w.heap.size (w.heap.size + 1) (w.heap.size + 1 + 1) x0 x1 (((w.alloc (.cells #[x0, x1] 29)).alloc (.cells #[.slice none 0 0, .slice none 0 0] 29)).alloc (.cells #[.int .u8 0, .int .u8 0, .int .u16 0, .int .u32 0, .int .u32 0] 44))) := by
  have c := Cells.new ((w.alloc (.cells #[x0, x1] 29)).alloc (.cells #[.slice none 0 0, .slice none 0 0] 29)) 44 hz5
  rw [World.size_alloc, World.size_alloc] at c
  exact ⟨⟨Bx2.quiet (Bx2.start w x0 x1) ((Keeps.refl _ _).alloc _), c, by omega⟩⟩
set_option maxHeartbeats 2000000 in
theorem refControl0 (ta ua : Option Addr) (tc un uc : Nat) (w : World) : Calls Tryz.prog 26 #[.agg #[.slice ta 0 tc, .slice ua un uc]] w fun e w' => e = .returned (.tuple #[.agg #[.slice ta 0 tc, .slice ua un uc], .agg #[.int .u8 0, .int .u8 0, .int .u16 0, .int .u32 0, .int .u32 0], .bool false]) ∧ Aside (Keeps Nowhere w w') := by
  have P0 := Cx.start w (.slice ta 0 tc) (.slice ua un uc)
  obtain ⟨W0, hW0⟩ : ∃ W0, W0 = ((w.alloc (.cells #[.slice ta 0 tc, .slice ua un uc] 29)).alloc (.cells #[.slice none 0 0, .slice none 0 0] 29)).alloc (.cells #[.int .u8 0, .int .u8 0, .int .u16 0, .int .u32 0, .int .u32 0] 44) := ⟨_, rfl⟩
  rw [← hW0] at P0
  go_enter Tryz.func26, Tryz.ntmps26
  go_upto_region 1 with fail
  rw [← hW0]
  clear hW0
  obtain ⟨b, hbb⟩ : ∃ b, Aside (b = w.heap.size) := ⟨_, ⟨rfl⟩⟩
  obtain ⟨r, hrr⟩ : ∃ r, Aside (r = w.heap.size + 1) := ⟨_, ⟨rfl⟩⟩
  obtain ⟨rh, hrh⟩ : ∃ rh, Aside (rh = w.heap.size + 1 + 1) := ⟨_, ⟨rfl⟩⟩
  rw [← hrh.it, ← hrr.it, ← hbb.it] at P0
  rw [show w.heap.size + 2 = rh from hrh.it.symm, ← hrr.it, ← hbb.it]
  obtain ⟨e0, e1, e2, e3⟩ := Bx2.cs P0.it.p
  obtain ⟨g0, g1, g2, g3⟩ := Bx2.fs P0.it.p
  obtain ⟨⟨i0, i1, i2, i3, i4⟩, j0, j1, j2, j3, j4⟩ := Cx.five P0
  have hne : ¬ r = rh := cells_ne P0.it.p.it.cr P0.it.h (by decide)
  have hne' : ¬ rh = r := fun e => hne e.symm
  go_wp2
  clear e0 e1 e2 e3 g0 g1 g2 g3 i0 i1 i2 i3 i4 j0 j1 j2 j3 j4
  have CO := Cx.out P0 (.slice ta 0 tc) (.slice ua un uc) (.int .u8 0) (.int .u8 0) (.int .u16 0) (.int .u32 0) (.int .u32 0)
  unfold set5 at CO
  simp only at CO
  generalize (((((((W0.setCell ⟨r, 0, none⟩ (.slice ta 0 tc)).setCell ⟨r, 1, none⟩ (.slice ua un uc)).setCell ⟨rh, 0, none⟩ (.int .u8 0)).setCell ⟨rh, 1, none⟩ (.int .u8 0)).setCell ⟨rh, 2, none⟩ (.int .u16 0)).setCell ⟨rh, 3, none⟩ (.int .u32 0)).setCell ⟨rh, 4, none⟩ (.int .u32 0)) = V at CO ⊢
  obtain ⟨⟨y0, y1⟩, ⟨z0, z1, z2, z3, z4⟩, K5⟩ := CO
  refine bodyPost_ret (v := .tuple #[.agg #[.slice ta 0 tc, .slice ua un uc], .agg #[.int .u8 0, .int .u8 0, .int .u16 0, .int .u32 0, .int .u32 0], .bool false]) (by simp [results, Tryz.results26, go_sem, y0, y1, z0, z1, z2, z3, z4]) rfl ⟨rfl, K5⟩
theorem Cx.set0 {rh : Nat} {u : Value} (h : Aside (Cx w b r rh x0 x1 W)) : Aside (Cx w b r rh u x1 (W.setCell ⟨b, 0, none⟩ u)) := by
  have P2 := Bx2.set h.it.p 0 u
  simp only [if_true, if_neg (show ¬ (0 : Nat) = 1 by decide)] at P2
  exact ⟨⟨P2, h.it.h.setOther _ _ (Ne.symm (cells_ne h.it.p.it.cb h.it.h (by decide))), h.it.hh⟩⟩
set_option maxHeartbeats 4000000 in
theorem refControl1 (t : Tk) (ua : Option Addr) (un uc : Nat) (hv : RdT w vt (t :: L)) (h0 : mayT t = 0) (hb : (t :: L).length * 16 ≤ 140737488355328) : Calls Tryz.prog 26 #[.agg #[vt, .slice ua un uc]] w fun e w' => ∃ v', e = .returned (.tuple #[.agg #[v', .slice ua un uc], hdT t, .bool true]) ∧ Aside (TN w w' vt v' L) ∧ Aside (Keeps Nowhere w w') := by
  obtain ⟨ta, tc, hvt, hl1, hm, hat⟩ := hv.at
  obtain ⟨g, o, rfl, c0, c1, c2⟩ := hat 0 t rfl
  subst hvt
  have P0 := Cx.start w (.slice (some ⟨g, o, none⟩) (t :: L).length tc) (.slice ua un uc)
  obtain ⟨W0, hW0⟩ : ∃ W0, W0 = ((w.alloc (.cells #[.slice (some ⟨g, o, none⟩) (t :: L).length tc, .slice ua un uc] 29)).alloc (.cells #[.slice none 0 0, .slice none 0 0] 29)).alloc (.cells #[.int .u8 0, .int .u8 0, .int .u16 0, .int .u32 0, .int .u32 0] 44) := ⟨_, rfl⟩
  rw [← hW0] at P0
  have ev : ∀ {p v}, w.cell? p = some v → W0.cell? p = some v := fun {p v} h => by rw [P0.it.p.it.k.bel.cell (World.block_lt_of_cell? w _ h)]; exact h
  replace c0 := ev c0
  replace c1 := ev c1
  replace c2 := ev c2
  rw [Nat.zero_mul, Nat.add_zero] at c0 c1 c2
  have FR := Aside.mk (frameR0 (w := W0) t h0)
  have WO := Aside.mk (fun W (k : Keeps Nowhere w W) => withoutR (w := W) _ (t :: L) 0 (hv.quiet k) (by simp) hb)
  obtain ⟨n, hn⟩ : ∃ n, n = (t :: L).length := ⟨_, rfl⟩
  rw [← hn] at hW0 P0 hl1 hb ⊢
  simp only [← hn] at WO
  have HN : Aside (n = L.length + 1) := ⟨hn⟩
  have n0 : (0 : Int) < n := by rw [hn, List.length_cons]; omega
  have n1 : ¬ (n : Int) = 0 := by omega
  clear ev hn hat hv hm h0 hb
  go_enter Tryz.func26, Tryz.ntmps26
  go_upto_region 1 with fail
  rw [← hW0]
  clear hW0
  obtain ⟨b, hbb⟩ : ∃ b, Aside (b = w.heap.size) := ⟨_, ⟨rfl⟩⟩
  obtain ⟨r, hrr⟩ : ∃ r, Aside (r = w.heap.size + 1) := ⟨_, ⟨rfl⟩⟩
  obtain ⟨rh, hrh⟩ : ∃ rh, Aside (rh = w.heap.size + 1 + 1) := ⟨_, ⟨rfl⟩⟩
  rw [← hrh.it, ← hrr.it, ← hbb.it] at P0
  rw [show w.heap.size + 2 = rh from hrh.it.symm, ← hrr.it, ← hbb.it]
  obtain ⟨e0, e1, e2, e3⟩ := Bx2.cs P0.it.p
  go_upto_region 4 with (first | (go_at_call 57; refine FR.it.mono ?_; rintro e w1 ⟨rfl, k1⟩) | fail)
  obtain ⟨w2, hw2⟩ : ∃ w2, w2 = w1.alloc (.cells #[.int .u8 0, .int .u8 (shF t.k.toNat), .int .u16 (shG t.k.toNat), .int .u32 t.s, .int .u32 t.v] 44) := ⟨_, rfl⟩
  have k2 : Keeps Nowhere w1 w2 := by rw [hw2]; exact (Keeps.refl _ _).alloc _
  have P2 := Cx.quiet (Cx.quiet P0 k1.it) k2
  have H2 : Aside (Cells w2 w1.heap.size 44 [.int .u8 0, .int .u8 (shF t.k.toNat), .int .u16 (shG t.k.toNat), .int .u32 t.s, .int .u32 t.v]) := ⟨by rw [hw2]; exact Cells.new _ _ _⟩
  rw [← hw2]
  obtain ⟨bh, hbh⟩ : ∃ bh, Aside (bh = w1.heap.size) := ⟨_, ⟨rfl⟩⟩
  rw [← hbh.it] at H2 ⊢
  have hbn : Aside (bh ≠ rh) := ⟨fun e => by have := (Cx.quiet P0 k1.it).it.h.lt; have := hbh.it; omega⟩
  clear hw2 e0 e1 e2 e3 FR c0 c1 c2 k2 P0 k1
  obtain ⟨e0, e1, e2, e3⟩ := Bx2.cs P2.it.p
  have WX := Aside.mk (WO.it w2 P2.it.p.it.k)
  go_upto_region 5 with (first | (go_at_call 47; refine WX.it.mono ?_; rintro e w3 ⟨v1, rfl, o1, k3⟩; obtain ⟨h0, h1, h2, hv1⟩ := owns_shapeK o1.it; subst hv1; have P3 := Cx.quiet P2 k3.it; obtain ⟨f0, f1, f2, f3⟩ := Bx2.cs P3.it.p; obtain ⟨g0, g1, g2, g3⟩ := Bx2.fs P3.it.p) | fail)
  have T3 : Aside (TN w w3 (.slice (some ⟨g, o, none⟩) n tc) (.slice h0 h1 h2) L) := ⟨owns_TN (L := L) o1.it (by have := HN.it; omega) P2.it.p.it.k.size⟩
  have HRN : Aside (∀ c, (Value.slice h0 h1 h2).ownBlock = some c → ¬ (c = r ∨ c = rh)) := ⟨fun c hc e => by
    have a1 := owns_base o1.it c hc
    have a2 := P2.it.h.lt
    have a3 := P2.it.p.it.cr.lt
    rcases e with e | e <;> omega⟩
  have P4 := Cx.set0 (u := .slice h0 h1 h2) P3
  have T4 := Aside.mk (Bx2.tnB (j := 0) (u := .slice h0 h1 h2) P3.it.p rfl rfl T3.it)
  have H4 : Aside (Cells (w3.setCell ⟨b, 0, none⟩ (.slice h0 h1 h2)) bh 44 [.int .u8 0, .int .u8 (shF t.k.toNat), .int .u16 (shG t.k.toNat), .int .u32 t.s, .int .u32 t.v]) := ⟨(H2.it.later k3.it (fun x => x)).setOther _ _ (Ne.symm (cells_ne P3.it.p.it.cb (H2.it.later k3.it (fun x => x)) (by decide)))⟩
  clear e0 e1 e2 e3 f0 f1 f2 f3 g0 g1 g2 g3 o1 WX WO P2 P3 T3 H2 k3
  generalize w3.setCell ⟨b, 0, none⟩ (.slice h0 h1 h2) = W4 at P4 T4 H4 ⊢
  obtain ⟨e0, e1, e2, e3⟩ := Bx2.cs P4.it.p
  obtain ⟨g0, g1, g2, g3⟩ := Bx2.fs P4.it.p
  obtain ⟨⟨i0, i1, i2, i3, i4⟩, j0, j1, j2, j3, j4⟩ := Cx.five P4
  have l0 := H4.it.cell 0
  have l1 := H4.it.cell 1
  have l2 := H4.it.cell 2
  have l3 := H4.it.cell 3
  have l4 := H4.it.cell 4
  simp only [List.getElem?_cons_zero, List.getElem?_cons_succ] at l0 l1 l2 l3 l4
  have hne : ¬ r = rh := cells_ne P4.it.p.it.cr P4.it.h (by decide)
  have hne' : ¬ rh = r := fun e => hne e.symm
  have m1 : ¬ b = r := P4.it.p.it.ne
  have m1' : ¬ r = b := fun e => m1 e.symm
  have m2 : ¬ b = rh := cells_ne P4.it.p.it.cb P4.it.h (by decide)
  have m2' : ¬ rh = b := fun e => m2 e.symm
  have m3 : ¬ bh = r := fun e => cells_ne P4.it.p.it.cr H4.it (by decide) e.symm
  have m3' : ¬ r = bh := fun e => m3 e.symm
  have m4 : ¬ bh = rh := hbn.it
  have m4' : ¬ rh = bh := fun e => m4 e.symm
  go_region
  go_wp2
  clear e0 e1 e2 e3 g0 g1 g2 g3 i0 i1 i2 i3 i4 j0 j1 j2 j3 j4 l0 l1 l2 l3 l4
  have CO := Cx.out P4 (.slice h0 h1 h2) (.slice ua un uc) (.int .u8 0) (.int .u8 (shF t.k.toNat)) (.int .u16 (shG t.k.toNat)) (.int .u32 t.s) (.int .u32 t.v)
  have KO := Cx.outK (rh := rh) W4 r (.slice h0 h1 h2) (.slice ua un uc) (.int .u8 0) (.int .u8 (shF t.k.toNat)) (.int .u16 (shG t.k.toNat)) (.int .u32 t.s) (.int .u32 t.v)
  unfold set5 at CO KO
  simp only at CO
  generalize (((((((W4.setCell ⟨r, 0, none⟩ (.slice h0 h1 h2)).setCell ⟨r, 1, none⟩ (.slice ua un uc)).setCell ⟨rh, 0, none⟩ (.int .u8 0)).setCell ⟨rh, 1, none⟩ (.int .u8 (shF t.k.toNat))).setCell ⟨rh, 2, none⟩ (.int .u16 (shG t.k.toNat))).setCell ⟨rh, 3, none⟩ (.int .u32 t.s)).setCell ⟨rh, 4, none⟩ (.int .u32 t.v)) = V at CO KO ⊢
  obtain ⟨⟨y0, y1⟩, ⟨z0, z1, z2, z3, z4⟩, K5⟩ := CO
  refine bodyPost_ret (v := .tuple #[.agg #[.slice h0 h1 h2, .slice ua un uc], hdT t, .bool true]) (by simp [results, Tryz.results26, go_sem, y0, y1, z0, z1, z2, z3, z4]) rfl ?_
  refine ⟨_, rfl, ⟨?_⟩, ⟨K5.it.drew⟩⟩
  refine TN.quiet (w' := V) ⟨ReadsK.later T4.it.1 KO HRN.it, fun c hc => ?_⟩ (Keeps.refl _ _).drew
  rcases T4.it.2 c hc with h | ⟨h1, h2⟩
  · exact .inl h
  · exact .inr ⟨h1, Nat.lt_of_lt_of_le h2 KO.size⟩
end Go.Proofs.YtnohcbdnhpaafaaGreatDoor

