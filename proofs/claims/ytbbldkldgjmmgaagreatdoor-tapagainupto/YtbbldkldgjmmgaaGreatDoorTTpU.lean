/-
  strconv.ParseUint(s, 16, 8) of two digits of base sixteen
-/
import Derived.Test.YtbbldkldgjmmgaaGreatDoorTTpT
import Derived.Lib.ConvBytes
namespace Go.Proofs.YtbbldkldgjmmgaaGreatDoor
open Go.RowKit Go.Maps
attribute [-go_sem] run_index_string

theorem lower_at (w : World) {c : Int} (h0 : 97 ≤ c) (h1 : c ≤ 102) : Calls Tryz.prog 116 #[.int .u8 c] w fun e w' => e = .returned (.int .u8 c) ∧ w' = w := by
  have h : c = 97 ∨ c = 98 ∨ c = 99 ∨ c = 100 ∨ c = 101 ∨ c = 102 := by omega
  rcases h with rfl | rfl | rfl | rfl | rfl | rfl
  all_goals
    go_enter Tryz.func116, Tryz.ntmps116
    go_wp2
    go_ret
    exact ⟨by rfl, rfl⟩
def xv (c : Int) : Int := if c ≤ 57 then c - 48 else c - 87
def XD (c : Int) : Prop := (48 ≤ c ∧ c ≤ 57) ∨ (97 ≤ c ∧ c ≤ 102)
theorem xv_b {c : Int} (h : XD c) : 0 ≤ xv c ∧ xv c ≤ 15 := by unfold XD at h; unfold xv; split <;> omega
def valJ (x y : Nat) : Nat → Int
  | 0 => 0
  | 1 => xv x
  | _ => 16 * xv x + xv y
theorem xd_hex {n : Nat} (h : n < 16) : XD (Tp.hexN n : Nat) ∧ xv (Tp.hexN n : Nat) = n := by
  unfold XD xv Tp.hexN
  split <;> (try split) <;> omega
theorem conv_str (w : World) (l : List UInt8) : ∃ c W1, (convert 9 32 (.string (str l))).run Tryz.prog w = .ok (.slice (some ⟨w.heap.size, 0, none⟩) l.length c) W1 ∧ (∀ j x, l[j]? = some x → W1.cell? ⟨w.heap.size, j, none⟩ = some (.int .u8 (x.toNat : Nat))) ∧ Below w.heap.size w W1 := by
  have h := Lib.run_convert_string_bytes w 9 32 5 (str l) Tryz.underlying9 Tryz.underlying32 Tryz.underlying5
  rw [str_size] at h
  refine ⟨_, _, h, fun j x hx => ?_, ?_⟩
  · obtain ⟨hj, e⟩ := List.getElem?_eq_some_iff.1 hx
    rw [Lib.bytesWorld_cell w 5 (str l) j (by rw [str_size]; exact hj)]
    simp [hx]
  · refine ⟨by simp [Lib.bytesWorld, World.freeze, World.alloc, World.drew, -World.alloc_eq, -World.drew_eq], by simp [Lib.bytesWorld, World.freeze, World.alloc, World.drew, -World.alloc_eq, -World.drew_eq], by simp [Lib.bytesWorld, World.freeze, World.alloc, World.drew, -World.alloc_eq, -World.drew_eq], by rw [Lib.bytesWorld_size]; omega, fun b hb => Lib.bytesWorld_at_old w 5 (str l) b hb⟩
set_option maxRecDepth 20000 in
set_option maxHeartbeats 4000000 in
theorem parse16i (w : World) {x y : Nat} (hx : x < 256) (hy : y < 256) (Hx : XD x) (Hy : XD y) :
    Calls Tryz.prog 98 #[.string (str (Tp.un [x, y])), .int .i64 16, .int .i64 8] w fun e w' => e = .returned (.tuple #[.int .u64 (16 * xv x + xv y), .nilIface]) ∧ Aside (Below w.heap.size w w') := by
  obtain ⟨cc, w1, CV, CL, B1⟩ := conv_str w (Tp.un [x, y])
  rw [show (Tp.un [x, y]).length = 2 from rfl] at CV
  have c0 : w1.cell? ⟨w.heap.size, 0, none⟩ = some (.int .u8 x) := by
    have := CL 0 (UInt8.ofNat x) rfl
    rwa [UInt8.toNat_ofNat', Nat.mod_eq_of_lt hx] at this
  have c1 : w1.cell? ⟨w.heap.size, 1, none⟩ = some (.int .u8 y) := by
    have := CL 1 (UInt8.ofNat y) rfl
    rwa [UInt8.toNat_ofNat', Nat.mod_eq_of_lt hy] at this
  have HB := Aside.mk B1
  have hsz : (str (Tp.un [x, y])).size = 2 := by rw [str_size, Tp.un_len]; rfl
  obtain ⟨S, hS⟩ : ∃ S, str (Tp.un [x, y]) = S := ⟨_, rfl⟩
  rw [hS] at hsz CV ⊢
  have hne : (S.toList == []) = false := by
    rw [beq_eq_false_iff_ne, ← hS]
    simp [Tp.un]
  have HX := Aside.mk (And.intro Hx Hy)
  clear hS B1 CL Hx Hy
  go_enter Tryz.func98, Tryz.ntmps98
  go_upto_region 36 with fail
  clear hne CV
  go_loopw [12, 13, 101] (fun uv nv iv wr => ∃ (j : Nat) (n : Int), uv = .bool false ∧ nv = .int .u64 n ∧ iv = .int .i64 j ∧ j ≤ 2 ∧ Aside (n = valJ x y j) ∧ wr = w1) (fun _ _ iv _ => 2 - natOfU iv)
  case atStart => exact ⟨0, 0, rfl, rfl, rfl, by decide, ⟨rfl⟩, rfl⟩
  case round =>
    obtain ⟨j, n, rfl, rfl, rfl, hj, HV, rfl⟩ := hrel
    rcases Nat.eq_or_lt_of_le hj with rfl | hlt
    · have hv : n = 16 * xv x + xv y := HV.it
      subst hv
      go_wp2_with fail
      go_ret2
      exact ⟨rfl, HB⟩
    · obtain ⟨c, hc, cc0, hn⟩ : ∃ c : Int, XD c ∧ wr.cell? ⟨w.heap.size, j, none⟩ = some (.int .u8 c) ∧ (0 ≤ n ∧ n ≤ 15 ∧ valJ x y (j + 1) = 16 * n + xv c) := by
        have hX := xv_b HX.it.1
        rcases (show j = 0 ∨ j = 1 by omega) with rfl | rfl
        · exact ⟨x, HX.it.1, c0, by rw [HV.it, show valJ x y 0 = 0 from rfl, show valJ x y (0 + 1) = xv x from rfl]; omega⟩
        · exact ⟨y, HX.it.2, c1, by rw [HV.it, show valJ x y 1 = xv x from rfl, show valJ x y (1 + 1) = 16 * xv x + xv y from rfl]; omega⟩
      obtain ⟨n0, n1, n2⟩ := hn
      have N2 := Aside.mk n2
      clear n2 c0 c1
      rcases hc with ⟨h1, h2⟩ | ⟨h1, h2⟩
      · have ex : xv c = c - 48 := by unfold xv; rw [if_pos (by omega)]
        rw [ex] at N2
        clear ex
        go_wp2_with fail
        go_roundw
        case rel => exact ⟨j + 1, n * 16 + (c - 48), rfl, by go_num, by go_num, by omega, ⟨by rw [N2.it]; omega⟩, by trivial⟩
        case measure => simp [natOfU]; omega
      · have ex : xv c = c - 87 := by unfold xv; rw [if_neg (by omega)]
        have LO := Aside.mk (lower_at wr h1 h2)
        rw [ex] at N2
        clear ex
        go_wp2_with (first | (go_at_call 116; refine LO.it.mono ?_; rintro e w2 ⟨rfl, rfl⟩) | fail)
        go_roundw
        case rel => exact ⟨j + 1, n * 16 + (c - 87), rfl, by go_num, by go_num, by omega, ⟨by rw [N2.it]; omega⟩, by trivial⟩
        case measure => simp [natOfU]; omega
theorem parse16 (w : World) {x y : Nat} (hx : x < 256) (hy : y < 256) (Hx : XD x) (Hy : XD y) :
    Calls Tryz.prog 73 #[.string (str (Tp.un [x, y])), .int .i64 16, .int .i64 8] w fun e w' => e = .returned (.tuple #[.int .u64 (16 * xv x + xv y), .nilIface]) ∧ Aside (Below w.heap.size w w') := by
  have P := Aside.mk (parse16i w hx hy Hx Hy)
  generalize str (Tp.un [x, y]) = S at P ⊢
  go_enter Tryz.func73, Tryz.ntmps73
  go_wp2_with (first | (go_at_call 98; refine P.it.mono ?_; rintro e w2 ⟨rfl, B2⟩) | fail)
  go_ret2
  exact ⟨rfl, B2⟩
end Go.Proofs.YtbbldkldgjmmgaaGreatDoor
