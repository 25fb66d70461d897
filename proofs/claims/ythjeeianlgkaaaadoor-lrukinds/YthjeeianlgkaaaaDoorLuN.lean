/-
  culvertref28.Same; rows of keys as numbers; Get and Peek in numbers
-/
import Derived.Test.YthjeeianlgkaaaaDoorLuL
import Derived.Test.YthjeeianlgkaaaaDoorRdI
namespace Go.Proofs.YthjeeianlgkaaaaDoor
open Go.RowKit Lulnn

variable {w w' w0 W : World} {own own' : Nat → Nat} {i c o j n : Nat} {room k now : Int} {L M : List Rx} {I : Nat → Prop} {A : Nat → Addr} {x y : Rx} {z : Oz} {v va vb : Value} {ks ms : List Int}

theorem rk_iv (L : List Rx) : rk L = iv (keyL L) := by
  rw [rk_map]
  unfold iv keyL
  rw [List.map_map]
  rfl
theorem keyL_len (L : List Rx) : (keyL L).length = L.length := by unfold keyL; rw [List.length_map]
theorem keys_rdI (h : w.ownsRow 0 3 1 v L.length (rk L)) (hb : ∀ x ∈ L, I6 x.k) : RdI w v (keyL L) := by
  rw [rk_iv] at h
  exact owns_rdI (n := L.length) h (fun z hz => by obtain ⟨x, hx, e⟩ := List.mem_map.1 hz; rw [← e]; exact hb x hx)
theorem RdI.shape (h : RdI w v ks) : ∃ a c, v = .slice a ks.length c := by obtain ⟨a, c, e, _⟩ := h; exact ⟨a, c, e⟩
theorem gv_int (L : List Rx) (k now : Int) : gvV L k now = .int .i64 (gotT L k now) := by
  unfold gvV gotT
  cases findL L k with
  | none => rfl
  | some x => by_cases h : now < x.u <;> simp [h]
def peT (L : List Rx) (k : Int) : Int := match findL L k with | none => 0 | some x => x.t
theorem pv_int (L : List Rx) (k : Int) : pvV L k = .int .i64 (peT L k) := by
  unfold pvV peT
  cases findL L k <;> rfl
theorem get_i (h : CaO own i w c room L) (hk : I6 k) (now : Int) : Calls Tryd.prog 11 #[ptr c, .int .i64 k, .int .i64 now] w fun e w' => e = .returned (.tuple #[.int .i64 (gotT L k now), .bool (gotB L k now)]) ∧ Aside (CaO own i w' c room (getL L k now)) ∧ Aside (Sn (fun k => k = i) own w own w') := by
  rw [← gv_int]; exact get_o h hk now
theorem peek_i (h : CaO own i w c room L) (hk : I6 k) : Calls Tryd.prog 38 #[ptr c, .int .i64 k] w fun e w' => e = .returned (.tuple #[.int .i64 (peT L k), .int .i64 (puI L k), .bool (hasL L k)]) ∧ Aside (Keeps Nowhere w w') := by
  rw [← pv_int]; exact peek_o h hk
theorem iv_take_snoc {z : Int} (h : ks[j]? = some z) : ks.take (j + 1) = ks.take j ++ [z] := by rw [List.take_add_one, h]; rfl
end Go.Proofs.YthjeeianlgkaaaaDoor
