/-
  culvertlaw28: rows, alike
-/
import Derived.Test.YthjeeianlgkaaaaDoorLuJ
import Derived.LaidEql
namespace Go.Proofs.YthjeeianlgkaaaaDoor
open Go.RowKit Lulnn

variable {w w' w0 W : World} {own own' : Nat → Nat} {i c o j : Nat} {room : Int} {L M : List Rx} {I : Nat → Prop} {A : Nat → Addr} {x y : Rx} {z : Oz} {v : Value}

def natI : Value → Nat | .int _ q => q.toNat | _ => 0
theorem rk_map (L : List Rx) : rk L = L.map (fun x => Value.int .i64 x.k) := by
  unfold rk
  induction L with
  | nil => rfl
  | cons a L ih => rw [List.flatMap_cons, ih]; rfl
theorem rk_at (h : L[j]? = some x) : (rk L)[j]? = some (.int .i64 x.k) := by rw [rk_map, List.getElem?_map, h]; rfl
theorem find_at (h : (keyL L).Nodup) (hj : L[j]? = some x) : findL L x.k = some x := by
  cases e : findL L x.k with
  | none => exact absurd (List.mem_map.2 ⟨x, List.mem_of_getElem? hj, rfl⟩) (findL_none e)
  | some y =>
    obtain ⟨hy, ek⟩ := findL_some e
    obtain ⟨i, hi⟩ := List.mem_iff_getElem?.1 hy
    have h1 : (keyL L)[i]? = some x.k := by unfold keyL; rw [List.getElem?_map, hi, ← ek]; rfl
    have h2 : (keyL L)[j]? = some x.k := by unfold keyL; rw [List.getElem?_map, hj]; rfl
    have : i = j := (List.getElem?_inj (List.getElem?_eq_some_iff.1 h1).1 h).1 (h1.trans h2.symm)
    rw [this, hj] at hi
    exact hi.symm
abbrev c3 (x : Rx) : List Value := [.int .i64 x.k, .int .i64 x.t, .int .i64 x.u]
def r3 (L : List Rx) : List Value := L.flatMap c3
theorem r3_snoc (L : List Rx) (x : Rx) : r3 (L ++ [x]) = r3 L ++ c3 x := by simp [r3, List.flatMap_append]
theorem r3_len : (r3 L).length = L.length * 3 := by
  induction L with
  | nil => rfl
  | cons a L ih => have e : r3 (a :: L) = c3 a ++ r3 L := rfl; rw [e, List.length_append, ih]; simp; omega
theorem r3_at (L : List Rx) : ∀ (j : Nat) (x : Rx), L[j]? = some x → ∀ (k : Nat) (u : Value), (c3 x)[k]? = some u → (r3 L)[j * 3 + k]? = some u := by
  induction L with
  | nil => intro j x h; simp at h
  | cons y L ih =>
    intro j x h k u hu
    have hk : k < 3 := by have := (List.getElem?_eq_some_iff.1 hu).1; simpa using this
    have e : r3 (y :: L) = c3 y ++ r3 L := rfl
    rw [e]
    cases j with
    | zero =>
      simp only [List.getElem?_cons_zero, Option.some.injEq] at h
      subst h
      rw [List.getElem?_append_left (by simp; omega)]
      simpa using hu
    | succ j =>
      simp only [List.getElem?_cons_succ] at h
      rw [List.getElem?_append_right (by simp; omega)]
      have : (j + 1) * 3 + k - (c3 y).length = j * 3 + k := by simp; omega
      rw [this]
      exact ih j x h k u hu
theorem info3 : (Tryd.prog.info? 41).map (fun i => (i.zero, i.size, i.bytes)) = some (some (.agg #[.int .i64 0, .int .i64 0, .int .i64 0]), 3, 24) := by kernel_rfl
/-- rows that can be read -/
def Rd3 (W : World) (v : Value) (L : List Rx) : Prop := ∃ a c, v = .slice a L.length c ∧ L.length ≤ c ∧ c ≤ maxLen ∧ ∀ j x, L[j]? = some x → ∃ g o, a = some ⟨g, o, none⟩ ∧ W.cell? ⟨g, o + j * 3, none⟩ = some (.int .i64 x.k) ∧ W.cell? ⟨g, o + j * 3 + 1, none⟩ = some (.int .i64 x.t) ∧ W.cell? ⟨g, o + j * 3 + 2, none⟩ = some (.int .i64 x.u)
theorem owns_rd3 {n : Nat} (h : W.ownsRow 0 41 3 v n (r3 L)) (hn : n = L.length) : Rd3 W v L := by
  subst hn
  obtain ⟨_, a, c, rfl, h1, h2, h3, h4⟩ := owns_readsK h
  refine ⟨a, c, rfl, h1, h2, fun j x hj => ?_⟩
  obtain ⟨g, o, rfl, e0⟩ := h4 (j * 3 + 0) _ (r3_at L j x hj 0 _ rfl)
  obtain ⟨_, _, e, e1⟩ := h4 (j * 3 + 1) _ (r3_at L j x hj 1 _ rfl)
  cases e
  obtain ⟨_, _, e, e2⟩ := h4 (j * 3 + 2) _ (r3_at L j x hj 2 _ rfl)
  cases e
  exact ⟨g, o, rfl, e0, e1, e2⟩
def q3 (x : Rx) : Int × Int × Int := (x.k, x.t, x.u)
set_option maxHeartbeats 2000000 in
set_option maxRecDepth 20000 in
theorem rows_ (h : CaO own i w c room L) (hmax : L.length * 30 ≤ 140737488355328) (o : Nat) :
    Calls Tryd.prog 8 #[ptr c] w fun e w' => ∃ qa qc, e = .returned (.tuple #[.slice qa L.length qc, .bool true]) ∧ Aside (OwR (give own w.heap.size o) o w' 41 3 (.slice qa L.length qc) L.length (r3 L)) ∧ Aside (Keeps Nowhere w w') := by
  have KY := Aside.mk (keys_o h (by have e : L.length * 8 ≤ 140737488355328 := (by omega); exact e) o)
  have H := Aside.mk h
  have hn := h.lok.one
  have HN := Aside.mk hn
  have HK := Aside.mk (fun x hx => (h.lok.ok x hx).k)
  clear h hn
  go_enter Tryd.func8, Tryd.ntmps8
  go_upto_region 4 with (first | (go_at_call 31; refine KY.it.mono ?_; clear KY; rintro e w1 ⟨kv1, rfl, R1, K1⟩) | fail)
  have RK := owns_readsK R1.it.1
  obtain ⟨hl1, ka, kc, rfl, hk1, hk2, hk3, hk4⟩ := RK
  have RC := Aside.mk hk4
  clear hl1 hk3 hk4
  obtain ⟨n, hn⟩ : ∃ n, L.length = n := ⟨_, rfl⟩
  have EN := Aside.mk hn
  rw [hn] at hk1 hmax R1 ⊢
  clear hn
  go_loopw [4, 6] (fun lv iv wr => ∃ (m : Nat) (ga : Option Addr) (gc : Nat), lv = .slice ga m gc ∧ iv = .int .i64 m ∧ m ≤ n ∧ Aside (wr.ownsRow w1.heap.size 41 3 (.slice ga m gc) m (r3 (L.take m))) ∧ Aside (Keeps Nowhere w1 wr)) (fun _ iv _ => n - natI iv)
  case atStart => exact ⟨0, none, 0, rfl, rfl, Nat.zero_le _, ⟨World.ownsRow_nil _ _ _ _⟩, ⟨Keeps.refl _ _⟩⟩
  case round =>
    obtain ⟨m, ga, gc, rfl, rfl, hm, O, K⟩ := hrel
    rcases Nat.eq_or_lt_of_le hm with rfl | hlt
    · go_wp2_with fail
      go_ret2
      have e0 := EN.it
      subst e0
      refine ⟨ga, gc, rfl, ⟨?_⟩, ⟨K1.it.trans K.it⟩⟩
      have r := O.it
      rw [List.take_length] at r
      exact OwR.new (owns_base_le r K1.it.size)
    · have hlt' : (m : Int) < (n : Int) := by omega
      obtain ⟨x, hx⟩ : ∃ x, L[m]? = some x := ⟨_, List.getElem?_eq_getElem (by rw [EN.it]; exact hlt)⟩
      have HX := Aside.mk hx
      obtain ⟨g, o2, rfl, kc0⟩ := RC.it m _ (rk_at hx)
      have kc1 : wr.cell? ⟨g, o2 + m, none⟩ = some (.int .i64 x.k) := by
        rw [World.cell?_of_block (w := w1) (K.it.block g (World.block_lt_of_cell? w1 _ kc0) (fun x => x))]; exact kc0
      have PK : Aside (Calls Tryd.prog 38 #[ptr c, .int .i64 x.k] wr fun e w' => e = .returned (.tuple #[.int .i64 x.t, .int .i64 x.u, .bool true]) ∧ Aside (Keeps Nowhere wr w')) := ⟨by
        have p := peek_o (k := x.k) (H.it.quiet (K1.it.trans K.it)) (HK.it x (List.mem_of_getElem? hx))
        unfold pvV puI hasL at p
        rw [find_at HN.it hx] at p
        exact p⟩
      have b1 : (m + 1) * 24 ≤ 140737488355328 := by omega
      have b2 : m + 1 ≤ maxLen := Nat.le_trans (show m + 1 ≤ 140737488355328 by omega) (by decide)
      have b3 : w1.heap.size ≤ wr.heap.size := K.it.size
      clear hx kc0
      go_wp2_with (first
        | (go_at_call 38; refine PK.it.mono ?_; clear PK; rintro e w3 ⟨rfl, K3⟩
           have O3 := Aside.mk (owns_later O.it K3.it (fun _ _ x => x))
           have kc2 : w3.cell? ⟨g, o2 + m, none⟩ = some (.int .i64 x.k) := (by rw [World.cell?_of_block (w := wr) (K3.it.block g (World.block_lt_of_cell? wr _ kc1) (fun x => x))]; exact kc1))
        | (at_builtin; refine wpList_appendR rfl _ _ 33 rfl 41 (.agg #[.int .i64 0, .int .i64 0, .int .i64 0]) 3 24 Tryd.underlying33 info3 rfl (by decide) w3 ((Keeps.refl _ _).alloc _) w1.heap.size _ m _ O3.it _ 1 (c3 x) (readsK_new w3 41 (c3 x)) (by simp [c3, Value.oneCell']) b1 b2 (Nat.le_trans b3 K3.it.size) rfl rfl ?_
           intro v' w' o5 k5 b5
           have K5 : Aside (Keeps Nowhere w1 w') := ⟨((K.it.trans K3.it).alloc _).next k5.it (fun x e hlt => by have h1 := owns_base O3.it x e; omega)⟩
           obtain ⟨p1, p2, p3, hv'⟩ := owns_shapeK o5.it
           obtain rfl : p2 = m + 1 := (by
             rcases o5.it.2 with ⟨e, h0⟩ | ⟨g, cap, cur, e, _⟩
             · exact absurd h0 (by omega)
             · rw [hv'] at e; injection e)
           subst hv')
        | fail)
      go_roundw
      case rel =>
        refine ⟨m + 1, p1, p3, rfl, by go_num, hlt, ⟨?_⟩, K5⟩
        rw [Rx_take_snoc HX.it, r3_snoc]
        exact o5.it
      case measure => simp [natI]; omega
theorem row_neq (x y : Rx) (w : World) : (binOp .neq 41 (.agg #[.int .i64 x.k, .int .i64 x.t, .int .i64 x.u]) (.agg #[.int .i64 y.k, .int .i64 y.t, .int .i64 y.u])).run Tryd.prog w = .ok (.bool (!decide (q3 x = q3 y))) w := by
  have hst : Tryd.prog.stoodInHeld 41 = false := by kernel_rfl
  have hfo : Tryd.prog.underlying 41 = some (.struct (Tryd.prog.fieldsOf 41)) := by kernel_rfl
  have h := run_equalIn_agg (P := Tryd.prog) (w := w) 9999 41 #[.int .i64 x.k, .int .i64 x.t, .int .i64 x.u] #[.int .i64 y.k, .int .i64 y.t, .int .i64 y.u] hfo hst
  rw [run_neq_struct, h]
  clear h hst hfo
  obtain ⟨xk, xt, xw, xu⟩ := x
  obtain ⟨yk, yt, yw, yu⟩ := y
  simp only [Program.fieldsOf, Tryd.underlying41, q3]
  by_cases h1 : xk = yk <;> by_cases h2 : xt = yt <;> by_cases h3 : xu = yu <;> simp [Op.eqFields, go_sem, h1, h2, h3]
end Go.Proofs.YthjeeianlgkaaaaDoor
