/-
  culvertref28.Same; rows of keys as numbers; Get and Peek in numbers
-/
import Derived.Test.YtcmgmhdlokcgbabDoorLuL
import Derived.Test.YtcmgmhdlokcgbabDoorRdI
namespace Go.Proofs.YtcmgmhdlokcgbabDoor
open Go.RowKit Lulnn

variable {w w' w0 W : World} {own own' : Nat → Nat} {i c o j n : Nat} {room k now : Int} {L M : List Rx} {I : Nat → Prop} {A : Nat → Addr} {x y : Rx} {z : Oz} {v va vb : Value} {ks ms : List Int}

theorem rk_iv (L : List Rx) : rk L = iv (keyL L) := by
  rw [rk_map]
  unfold iv keyL
  rw [List.map_map]
  rfl
theorem keyL_len (L : List Rx) : (keyL L).length = L.length := by unfold keyL; rw [List.length_map]
theorem keys_rdI (h : w.ownsRow 0 3 1 v L.length (rk L)) (hb : ∀ x ∈ L, I6 x.k) : RdI w v (keyL L) := by
  rw [rk_iv] at h
  exact owns_rdI (n := L.length) h (fun z hz => by obtain ⟨x, hx, e⟩ := List.mem_map.1 hz; rw [← e]; exact hb x hx)
theorem RdI.shape (h : RdI w v ks) : ∃ a c, v = .slice a ks.length c := by obtain ⟨a, c, e, _⟩ := h; exact ⟨a, c, e⟩
theorem gv_int (L : List Rx) (k now : Int) : gvV L k now = .int .i64 (gotT L k now) := by
  unfold gvV gotT
  cases findL L k with
  | none => rfl
  | some x => by_cases h : now < x.u <;> simp [h]
def peT (L : List Rx) (k : Int) : Int := match findL L k with | none => 0 | some x => x.t
theorem pv_int (L : List Rx) (k : Int) : pvV L k = .int .i64 (peT L k) := by
  unfold pvV peT
  cases findL L k <;> rfl
theorem get_i (h : CaO own i w c room L) (hk : I6 k) (now : Int) : Calls Tryd.prog 15 #[ptr c, .int .i64 k, .int .i64 now] w fun e w' => e = .returned (.tuple #[.int .i64 (gotT L k now), .bool (gotB L k now)]) ∧ Aside (CaO own i w' c room (getL L k now)) ∧ Aside (Sn (fun k => k = i) own w own w') := by
  rw [← gv_int]; exact get_o h hk now
theorem peek_i (h : CaO own i w c room L) (hk : I6 k) : Calls Tryd.prog 19 #[ptr c, .int .i64 k] w fun e w' => e = .returned (.tuple #[.int .i64 (peT L k), .int .i64 (puI L k), .bool (hasL L k)]) ∧ Aside (Keeps Nowhere w w') := by
  rw [← pv_int]; exact peek_o h hk
theorem iv_take_snoc {z : Int} (h : ks[j]? = some z) : ks.take (j + 1) = ks.take j ++ [z] := by rw [List.take_add_one, h]; rfl
set_option maxHeartbeats 2000000 in
theorem same_ (ha : RdI w va ks) (hb : RdI w vb ms) :
    Calls Tryd.prog 14 #[va, vb] w fun e w' => e = .returned (.bool (decide (ks = ms))) ∧ Aside (Keeps Nowhere w w') := by
  obtain ⟨qa, ca, rfl, hla, hma, ra⟩ := ha
  obtain ⟨qb, cb, rfl, hlb, hmb, rb⟩ := hb
  have RA := Aside.mk ra
  have RB := Aside.mk rb
  have mx : maxLen ≤ 9223372036854775807 := by decide
  clear ra rb
  by_cases hn : ks.length = ms.length
  · have EN := Aside.mk hn
    obtain ⟨n, hln⟩ : ∃ n, ks.length = n := ⟨_, rfl⟩
    have HL := Aside.mk hln
    have hmn : ms.length = n := by omega
    rw [hln] at hla
    rw [hmn] at hlb
    have HD : Aside (∀ b : Bool, (b = true ↔ ks = ms) → decide (ks = ms) = b) := ⟨fun b h => by cases b <;> simp_all⟩
    rw [hln, hmn]
    clear hn hln hmn
    generalize decide (ks = ms) = D at HD ⊢
    have q1 : ((n : Int) == n) = true := by simp
    go_enter Tryd.func14, Tryd.ntmps14
    go_upto_region 4 with fail
    go_loopw [5] (fun iv wr => ∃ m : Nat, iv = .int .i64 m ∧ m ≤ n ∧ Aside (ks.take m = ms.take m) ∧ Keeps Nowhere w wr) (fun iv _ => n - natI iv)
    case atStart => exact ⟨0, rfl, Nat.zero_le _, ⟨rfl⟩, Keeps.refl _ _⟩
    case round =>
      obtain ⟨m, rfl, hm, HE, K⟩ := hrel
      rcases Nat.eq_or_lt_of_le hm with rfl | hlt
      · go_wp2_with fail
        go_ret
        have e := HE.it
        rw [List.take_of_length_le (by rw [HL.it]; exact Nat.le_refl _), List.take_of_length_le (by rw [← EN.it, HL.it]; exact Nat.le_refl _)] at e
        have hd := HD.it true ⟨fun _ => e, fun _ => rfl⟩
        subst hd
        exact ⟨rfl, ⟨K⟩⟩
      · have hlt' : (m : Int) < (n : Int) := by omega
        obtain ⟨x, hx⟩ : ∃ x, ks[m]? = some x := ⟨_, List.getElem?_eq_getElem (by rw [HL.it]; exact hlt)⟩
        obtain ⟨y, hy⟩ : ∃ y, ms[m]? = some y := ⟨_, List.getElem?_eq_getElem (by rw [← EN.it, HL.it]; exact hlt)⟩
        obtain ⟨_, g, o, rfl, x0⟩ := RA.it m x hx
        obtain ⟨_, g', o', rfl, y0⟩ := RB.it m y hy
        have hbl := K.block g (World.block_lt_of_cell? w _ x0) (fun x => x)
        have hbl' := K.block g' (World.block_lt_of_cell? w _ y0) (fun x => x)
        have x0 : wr.cell? ⟨g, o + m, none⟩ = some (.int .i64 x) := by rw [World.cell?_of_block (w := w) hbl]; exact x0
        have y0 : wr.cell? ⟨g', o' + m, none⟩ = some (.int .i64 y) := by rw [World.cell?_of_block (w := w) hbl']; exact y0
        have HK := Aside.mk K
        have HX := Aside.mk (And.intro hx hy)
        clear hx hy hbl hbl' K
        by_cases hxy : x = y
        · have NQ : (x == y) = true := by simp [hxy]
          go_wp2_with fail
          go_quiet (fail)
          go_wp2_with fail
          go_roundw
          case rel => exact ⟨m + 1, by go_num, hlt, ⟨by rw [iv_take_snoc HX.it.1, iv_take_snoc HX.it.2, HE.it, hxy]⟩, HK.it.drewN _⟩
          case measure => simp [natI]; omega
        · have NQ : (x == y) = false := by simp [hxy]
          go_wp2_with fail
          go_quiet (fail)
          go_wp2_with fail
          go_ret
          have hd := HD.it false (by
            refine ⟨(fun h => by simp at h), fun h => ?_⟩
            have h1 := HX.it.1
            rw [h, HX.it.2] at h1
            exact absurd (Option.some.inj h1).symm hxy)
          subst hd
          exact ⟨rfl, ⟨HK.it.drewN _⟩⟩
  · have hd : decide (ks = ms) = false := decide_eq_false fun e => hn (by rw [e])
    rw [hd]
    have q1 : ((ks.length : Int) == ms.length) = false := by simp; omega
    go_enter Tryd.func14, Tryd.ntmps14
    go_wp2_with fail
    go_ret
    exact ⟨rfl, ⟨Keeps.refl _ _⟩⟩
end Go.Proofs.YtcmgmhdlokcgbabDoor
