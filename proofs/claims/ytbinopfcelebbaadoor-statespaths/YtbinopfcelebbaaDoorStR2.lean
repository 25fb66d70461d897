/-
  the document's Play
-/
import Derived.Test.YtbinopfcelebbaaDoorStR
namespace Go.Proofs.YtbinopfcelebbaaDoor
open Go.RowKit

/-- Play answers as plS, plN, plE say -/
theorem rplay_any (v : Value) (zs : List Int) (w : World) (hz : RdI w v zs) : Calls Tryd.prog 14 #[v] w fun x w' => x = .returned (.tuple #[.int .i64 (plS 0 zs), .int .i64 (plN 0 zs), .int .i64 (plE 0 zs)]) ∧ w' = w := by
  obtain ⟨sa, sc, rfl, hlc, hmx, hat⟩ := hz
  obtain ⟨M, hM⟩ : ∃ M, Aside (M = zs.length) := ⟨_, ⟨rfl⟩⟩
  rw [← hM.it] at hlc ⊢
  have hM63 : (M : Int) ≤ 9223372036854775807 := by
    have : sc ≤ 9223372036854775807 := hmx
    omega
  have HAT := Aside.mk hat
  have HN := Aside.mk (fun s e w => rnext_any s e w)
  clear hat hmx
  go_enter Tryd.func14, Tryd.ntmps14
  go_upto_region 3 with fail
  go_loopw [5, 6] (fun sv x wr => ∃ (k : Nat) (r : Int), sv = .int .i64 r ∧ x = .int .i64 k ∧ wr = w ∧ Aside (Pl zs k r)) (fun _ x _ => M - (intOf x).toNat)
  case atStart => exact ⟨0, 0, rfl, rfl, rfl, ⟨Pl.start zs⟩⟩
  case round =>
    obtain ⟨k, r, rfl, rfl, rfl, HP⟩ := hrel
    have hk : k ≤ M := by rw [hM.it]; exact HP.it.le
    rcases Nat.eq_or_lt_of_le hk with rfl | hlt
    · clear HAT HN
      go_wp2
      go_ret3
      have hP := HP.it
      rw [hM.it] at hP ⊢
      obtain ⟨e1, e2, e3⟩ := hP.all
      rw [e1, e2, e3]
      exact ⟨rfl, rfl⟩
    · have hx : zs[k]? = some (zs[k]'(by rw [← hM.it]; exact hlt)) := List.getElem?_eq_getElem _
      generalize zs[k]'(by rw [← hM.it]; exact hlt) = x at hx
      have HX := Aside.mk hx
      obtain ⟨hb, sb, so, rfl, hc⟩ := HAT.it k x hx
      clear hx HAT
      have i2 : (k : Int) < M := by omega
      have i3 : (0 : Int) ≤ k := by omega
      have i4 : (k : Int) ≤ 9223372036854775806 := by omega
      by_cases h0 : nxE r x = 0
      · have HQ := Aside.mk (HP.it.next HX.it h0)
        have c1 := Aside.mk (HN.it r x wr)
        rw [h0] at c1
        clear HN h0
        generalize nxS r x = t at c1 HQ
        go_wp2_with (first | (go_at_call 21; refine c1.it.mono ?_; rintro y w1 ⟨rfl, rfl⟩) | fail)
        go_roundw
        case rel => exact ⟨k + 1, t, rfl, by go_num, by first | rfl | trivial, HQ⟩
        case measure => simp [intOf]; omega
      · have HQ := Aside.mk (HP.it.fails HX.it h0)
        have c1 := Aside.mk (HN.it r x wr)
        clear HN
        have h1 : (nxE r x != 0) = true := by simpa using h0
        clear h0
        generalize nxE r x = f at c1 HQ h1
        go_wp2_with (first | (go_at_call 21; refine c1.it.mono ?_; rintro y w1 ⟨rfl, rfl⟩) | fail)
        go_ret3
        obtain ⟨e1, e2, e3⟩ := HQ.it
        rw [e1, e2, e3]
        exact ⟨rfl, rfl⟩
end Go.Proofs.YtbinopfcelebbaaDoor
