/-
  the document's history (culvertref24): Text
-/
import Derived.Test.YteojdangidnnkaaDoorTrU
namespace Go.Proofs.YteojdangidnnkaaDoor
open Go.RowKit Go.Maps

variable {w w' W w1 w2 : World} {own own' : Nat → Nat} {v : Value} {U : Ds} {I : Nat → Prop} {k : Int} {d : Dr} {T : Nat} {ns : List Int} {sl : Value} {rb : Nat}
theorem row_cells {cs : List Value} (C1 : Aside (Cells w1 rb 59 cs)) (hk : Aside (Keeps Nowhere w1 w)) : ∀ i, w.cell? ⟨rb, i, none⟩ = cs[i]? := fun i => (C1.it.later hk.it (fun x => x)).cell i
theorem row_cells3 {dk : Int} {uq : Option Addr} {ul uc rd : Nat} {c e : Bool} (C1 : Aside (Cells w1 rb 59 [.int .i64 dk, .slice uq ul uc, .int .i64 rd, .bool c, .bool e])) (hk : Aside (Keeps Nowhere w1 w)) : w.cell? ⟨rb, 0, none⟩ = some (.int .i64 dk) ∧ w.cell? ⟨rb, 1, none⟩ = some (.slice uq ul uc) ∧ w.cell? ⟨rb, 2, none⟩ = some (.int .i64 rd) := ⟨row_cells C1 hk 0, row_cells C1 hk 1, row_cells C1 hk 2⟩
set_option maxRecDepth 20000 in
set_option maxHeartbeats 4000000 in
theorem dText (h : RdD own w v U) (hl : U.length ≤ 1073741824) (ok : TOk T (mdl U)) (hT : T ≤ 70368744177664) (hp : PowT w) :
    Calls Tryd.prog 15 #[.agg #[v]] w fun e w' => e = .returned (.string (str (textT (mdl U)))) ∧ Aside (Keeps Nowhere w w') := by
  have H := Aside.mk h
  have HP := Aside.mk hp
  have OK := Aside.mk ok
  obtain ⟨a, c, rfl, hlc, hc⟩ := h.s
  obtain ⟨n, hn⟩ : ∃ n, U.length = n := ⟨_, rfl⟩
  have HN := Aside.mk hn
  rw [hn] at hlc hl ⊢
  obtain ⟨bx, hbx⟩ : ∃ bx, w.heap.size = bx := ⟨_, rfl⟩
  obtain ⟨W1, hW1⟩ : ∃ W1, w.alloc (.cells #[.slice a n c] 28) = W1 := ⟨_, rfl⟩
  have K1 : Aside (Keeps Nowhere w W1) := ⟨by rw [← hW1]; exact (Keeps.refl _ _).alloc _⟩
  have C1 : Aside (Cells W1 bx 28 [.slice a n c]) := ⟨by rw [← hW1, ← hbx]; exact Cells.new w _ _⟩
  have HC := Aside.mk hc
  clear hc hn h hp ok
  go_enter Tryd.func15, Tryd.ntmps15
  go_upto_region 1 with fail
  clear hW1 hbx
  go_wp2_with fail
  go_loopw [3, 4] (fun ov iv wr => ∃ j : Nat, iv = .int .i64 j ∧ j ≤ n ∧ ov = .string (str (textT (mdl (U.take j)))) ∧ Aside (Keeps Nowhere W1 wr)) (fun _ iv _ => n - natOfT iv)
  case atStart => exact ⟨0, rfl, Nat.zero_le _, rfl, ⟨Keeps.refl _ _⟩⟩
  case round =>
    obtain ⟨j, rfl, hj, rfl, KJ⟩ := hrel
    have d0 : wr.cell? ⟨bx, 0, none⟩ = some (.slice a n c) := by rw [(C1.it.later KJ.it (fun x => x)).cell]; rfl
    rcases Nat.eq_or_lt_of_le hj with rfl | hlt
    · have e0 : Aside (U.take j = U) := ⟨List.take_of_length_le (by rw [HN.it]; exact Nat.le_refl _)⟩
      go_wp2_with fail
      go_ret
      exact ⟨congrArg (fun X : Ds => Ending.returned (Value.string (str (textT (mdl X))))) e0.it, ⟨K1.it.trans KJ.it⟩⟩
    · obtain ⟨y, hy⟩ : ∃ y, U[j]? = some y := ⟨_, List.getElem?_eq_getElem (by rw [HN.it]; exact hlt)⟩
      obtain ⟨g, rfl, _, hrow⟩ := HC.it j y hy
      obtain ⟨yq, yc, hyu⟩ := (H.it.b y (List.mem_of_getElem? hy)).sl
      have hym : (y.k, y.r) ∈ mdl U := List.mem_map.2 ⟨y, List.mem_of_getElem? hy, rfl⟩
      have hz1 : Zw y.k := OK.it.kb _ hym
      have hok : y.r.Ok T := OK.it.rb _ hym
      have HTX : Aside (textT (mdl (U.take (j + 1))) = textT (mdl (U.take j)) ++ lineT (y.k, y.r)) := ⟨by rw [dtake_snoc hy]; simp only [mdl, List.map_append, List.map_cons, List.map_nil]; exact textT_snoc _ _⟩
      have hlen : (textT (mdl (U.take j))).length ≤ 1099511627776 := by
        have h1 : TOk T (mdl (U.take j)) := by
          have e : mdl (U.take j) = (mdl U).take j := by simp [mdl, List.map_take]
          rw [e]
          exact ⟨OK.it.up.sublist ((List.take_sublist j _).map _), fun x hx => OK.it.kb x (List.mem_of_mem_take hx), fun x hx => OK.it.rb x (List.mem_of_mem_take hx)⟩
        have h2 := text_len h1 hT
        have h3 : (mdl (U.take j)).length ≤ n := by rw [mdl_len, List.length_take]; omega
        omega
      obtain ⟨dk, du, dr⟩ := y
      simp only at hyu hz1 hok HTX
      subst hyu
      obtain ⟨ul, hul⟩ : ∃ ul, dr.wr.length = ul := ⟨_, rfl⟩
      obtain ⟨rd, hrd⟩ : ∃ rd, dr.rd = rd := ⟨_, rfl⟩
      rw [hul] at hrow
      have hz2 : Zw ((ul : Nat) : Int) := zw_nat (by have := hok.len; omega)
      have hz3 : Zw ((rd : Nat) : Int) := zw_nat (by have := hok.len; have := hok.rd; omega)
      obtain ⟨z0, z1, z2, z3, z4⟩ := hrow.later (K1.it.trans KJ.it) (fun x => x)
      simp only at z0 z1 z2 z3 z4
      rw [hrd] at z2
      have HLN : Aside (lineT (dk, dr) = headT (dk, dr) ++ tailC dr ++ tailE dr ++ [10]) := ⟨rfl⟩
      have HH : Aside (headT (dk, dr) = Lib.itoa dk ++ wWritten ++ Lib.itoa ((ul : Nat) : Int) ++ wRead ++ Lib.itoa ((rd : Nat) : Int)) := ⟨by unfold headT; rw [hul, hrd]⟩
      have l1 := itoa_len hz1
      have l2 := itoa_len hz2
      have l3 := itoa_len hz3
      obtain ⟨s1, hs1⟩ : ∃ s1, Lib.itoa dk = s1 := ⟨_, rfl⟩
      obtain ⟨s2, hs2⟩ : ∃ s2, Lib.itoa ((ul : Nat) : Int) = s2 := ⟨_, rfl⟩
      obtain ⟨s3, hs3⟩ : ∃ s3, Lib.itoa ((rd : Nat) : Int) = s3 := ⟨_, rfl⟩
      rw [hs1] at l1 HH
      rw [hs2] at l2 HH
      rw [hs3] at l3 HH
      obtain ⟨X, hX⟩ : ∃ X, textT (mdl (U.take j)) = X := ⟨_, rfl⟩
      rw [hX] at hlen HTX ⊢
      obtain ⟨t1, ht1⟩ : ∃ t1, s1 ++ wWritten = t1 := ⟨_, rfl⟩
      obtain ⟨t2, ht2⟩ : ∃ t2, t1 ++ s2 = t2 := ⟨_, rfl⟩
      obtain ⟨t3, ht3⟩ : ∃ t3, t2 ++ wRead = t3 := ⟨_, rfl⟩
      obtain ⟨t4, ht4⟩ : ∃ t4, t3 ++ s3 = t4 := ⟨_, rfl⟩
      obtain ⟨t5, ht5⟩ : ∃ t5, X ++ t4 = t5 := ⟨_, rfl⟩
      have m1 : t1.length ≤ 30 := by rw [← ht1]; simp; omega
      have m2 : t2.length ≤ 51 := by rw [← ht2]; simp; omega
      have m3 : t3.length ≤ 57 := by rw [← ht3]; simp; omega
      have m4 : t4.length ≤ 78 := by rw [← ht4]; simp; omega
      have m5 : t5.length ≤ 1099511627776 + 78 := by rw [← ht5]; simp; omega
      have a1 : ∀ W, (Op.stringOp .add (str s1) (str wWritten)).run Tryd.prog W = .ok (.string (str t1)) W := fun W => by rw [← ht1]; exact add_str s1 wWritten (by simp; omega) W
      have a2 : ∀ W, (Op.stringOp .add (str t1) (str s2)).run Tryd.prog W = .ok (.string (str t2)) W := fun W => by rw [← ht2]; exact add_str t1 s2 (by omega) W
      have a3 : ∀ W, (Op.stringOp .add (str t2) (str wRead)).run Tryd.prog W = .ok (.string (str t3)) W := fun W => by rw [← ht3]; exact add_str t2 wRead (by simp; omega) W
      have a4 : ∀ W, (Op.stringOp .add (str t3) (str s3)).run Tryd.prog W = .ok (.string (str t4)) W := fun W => by rw [← ht4]; exact add_str t3 s3 (by omega) W
      have a5 : ∀ W, (Op.stringOp .add (str X) (str t4)).run Tryd.prog W = .ok (.string (str t5)) W := fun W => by rw [← ht5]; exact add_str X t4 (by omega) W
      have b1 : ∀ (x : List UInt8) (s : List UInt8), x.length ≤ 1099511627776 + 200 → s.length ≤ 10 → ∀ W, (Op.stringOp .add (str x) (str s)).run Tryd.prog W = .ok (.string (str (x ++ s))) W := fun x s hx hs W => add_str x s (by omega) W
      have HT5 : Aside (X ++ lineT (dk, dr) = ((t5 ++ tailC dr) ++ tailE dr) ++ [10]) := ⟨by rw [HLN.it, HH.it, ht1, ht2, ht3, ht4, ← ht5]; simp [List.append_assoc]⟩
      have HB1 := Aside.mk b1
      have M5 := Aside.mk m5
      have C3 : Aside (Cells (wr.alloc (.cells #[.int .i64 dk, .slice yq ul yc, .int .i64 rd, .bool dr.cl, .bool dr.en] 59)) wr.heap.size 59 [.int .i64 dk, .slice yq ul yc, .int .i64 rd, .bool dr.cl, .bool dr.en]) := ⟨Cells.new wr _ _⟩
      have K3 : Aside (Keeps Nowhere wr (wr.alloc (.cells #[.int .i64 dk, .slice yq ul yc, .int .i64 rd, .bool dr.cl, .bool dr.en] 59))) := ⟨(Keeps.refl _ _).alloc _⟩
      have IZ := Aside.mk (And.intro hs1 (And.intro hs2 hs3))
      have ZZ := Aside.mk (And.intro hz1 (And.intro hz2 hz3))
      clear hy hrow hym hz1 hz2 hz3 hok l1 l2 l3 hs1 hs2 hs3 ht1 ht2 ht3 ht4 ht5 m1 m2 m3 m4 m5 b1 HH hul hrd hlen hX
      go_upto_region 6 with fail
      clear d0 z0 z1 z2 z3 z4
      obtain ⟨rb, hrb⟩ : ∃ rb, wr.heap.size = rb := ⟨_, rfl⟩
      rw [hrb] at C3 ⊢
      generalize wr.alloc (.cells #[.int .i64 dk, .slice yq ul yc, .int .i64 rd, .bool dr.cl, .bool dr.en] 59) = w3 at C3 K3 ⊢
      have P3 := Aside.mk (powT_later HP.it ((K1.it.trans KJ.it).trans K3.it).bel)
      have KD : Aside (Keeps Nowhere w3 w3.drew) := ⟨(Keeps.refl _ _).drew⟩
      have IT : Aside ((∀ W, Aside (Keeps Nowhere w3 W) → Calls Tryd.prog 35 #[.int .i64 dk] W fun e w' => e = .returned (.string (str s1)) ∧ Aside (Keeps Nowhere w3 w')) ∧ (∀ W, Aside (Keeps Nowhere w3 W) → Calls Tryd.prog 35 #[.int .i64 ul] W fun e w' => e = .returned (.string (str s2)) ∧ Aside (Keeps Nowhere w3 w')) ∧ ∀ W, Aside (Keeps Nowhere w3 W) → Calls Tryd.prog 35 #[.int .i64 rd] W fun e w' => e = .returned (.string (str s3)) ∧ Aside (Keeps Nowhere w3 w')) := ⟨fun W hk => by rw [← IZ.it.1]; exact itoaK P3 hk ZZ.it.1, fun W hk => by rw [← IZ.it.2.1]; exact itoaK P3 hk ZZ.it.2.1, fun W hk => by rw [← IZ.it.2.2]; exact itoaK P3 hk ZZ.it.2.2⟩
      clear hrb
      go_cut [3] (fun ov wx => ov = .string (str t5) ∧ Aside (Keeps Nowhere w3 wx))
      case first =>
        go_region_held3 (fun W => W.cell? ⟨rb, 0, none⟩ = some (.int .i64 dk) ∧ W.cell? ⟨rb, 1, none⟩ = some (.slice yq ul yc) ∧ W.cell? ⟨rb, 2, none⟩ = some (.int .i64 rd)) (with_reducible exact row_cells3 C3 (by with_reducible assumption)) (first
          | (go_at_call 35; refine (IT.it.1 _ (by with_reducible assumption)).mono ?_; rintro e wA ⟨rfl, KA⟩)
          | (go_at_call 35; refine (IT.it.2.1 _ (by with_reducible assumption)).mono ?_; rintro e wB ⟨rfl, KB⟩)
          | (go_at_call 35; refine (IT.it.2.2 _ (by with_reducible assumption)).mono ?_; rintro e wC ⟨rfl, KC⟩)
          | fail)
        all_goals go_wp2_with fail
        all_goals go_meet
        all_goals exact ⟨rfl, KC⟩
      case rest =>
        obtain ⟨rfl, KX⟩ := hcut
        have r3 : wc.cell? ⟨rb, 3, none⟩ = some (.bool dr.cl) := row_cells C3 KX 3
        have r4 : wc.cell? ⟨rb, 4, none⟩ = some (.bool dr.en) := row_cells C3 KX 4
        have KF : Aside (Keeps Nowhere W1 wc) := ⟨(KJ.it.trans K3.it).trans KX.it⟩
        clear a1 a2 a3 a4 a5 IT
        cases hcl : dr.cl with
        | true =>
          rw [hcl] at r3
          have HTC : Aside (tailC dr = wClosed) := ⟨by unfold tailC; rw [hcl]; rfl⟩
          cases hen : dr.en with
          | true =>
            rw [hen] at r4
            have HTE : Aside (tailE dr = wEnded) := ⟨by unfold tailE; rw [hen]; rfl⟩
            obtain ⟨t6, ht6⟩ : ∃ t6, t5 ++ wClosed = t6 := ⟨_, rfl⟩
            have x6 : ∀ W, (Op.stringOp .add (str t5) (str wClosed)).run Tryd.prog W = .ok (.string (str t6)) W := fun W => by rw [← ht6]; exact HB1.it t5 wClosed (by have := M5.it; omega) (by decide) W
            have M6 : Aside (t6.length ≤ 1099511627776 + 88) := ⟨by rw [← ht6]; have := M5.it; simp; omega⟩
            obtain ⟨t7, ht7⟩ : ∃ t7, t6 ++ wEnded = t7 := ⟨_, rfl⟩
            have x7 : ∀ W, (Op.stringOp .add (str t6) (str wEnded)).run Tryd.prog W = .ok (.string (str t7)) W := fun W => by rw [← ht7]; exact HB1.it t6 wEnded (by have := M6.it; omega) (by decide) W
            have M7 : Aside (t7.length ≤ 1099511627776 + 98) := ⟨by rw [← ht7]; have := M6.it; simp; omega⟩
            obtain ⟨t8, ht8⟩ : ∃ t8, t7 ++ [10] = t8 := ⟨_, rfl⟩
            have x8 : ∀ W, (Op.stringOp .add (str t7) (str [10])).run Tryd.prog W = .ok (.string (str t8)) W := fun W => by rw [← ht8]; exact HB1.it t7 [10] (by have := M7.it; omega) (by decide) W
            have M8 : Aside (t8.length ≤ 1099511627776 + 108) := ⟨by rw [← ht8]; have := M7.it; simp; omega⟩
            have HF : Aside (X ++ lineT (dk, dr) = t8) := ⟨by
              rw [HT5.it, HTC.it, HTE.it]
              try simp only [List.append_nil]
              rw [ht6, ht7, ht8]⟩
            clear hcl hen ht6 ht7 ht8
            go_wp2_with fail
            go_roundw
            case rel => exact ⟨j + 1, by go_num, by omega, by rw [HTX.it, HF.it], KF⟩
            case measure => simp [natOfT]; omega
          | false =>
            rw [hen] at r4
            have HTE : Aside (tailE dr = []) := ⟨by unfold tailE; rw [hen]; rfl⟩
            obtain ⟨t6, ht6⟩ : ∃ t6, t5 ++ wClosed = t6 := ⟨_, rfl⟩
            have x6 : ∀ W, (Op.stringOp .add (str t5) (str wClosed)).run Tryd.prog W = .ok (.string (str t6)) W := fun W => by rw [← ht6]; exact HB1.it t5 wClosed (by have := M5.it; omega) (by decide) W
            have M6 : Aside (t6.length ≤ 1099511627776 + 88) := ⟨by rw [← ht6]; have := M5.it; simp; omega⟩
            obtain ⟨t7, ht7⟩ : ∃ t7, t6 ++ [10] = t7 := ⟨_, rfl⟩
            have x7 : ∀ W, (Op.stringOp .add (str t6) (str [10])).run Tryd.prog W = .ok (.string (str t7)) W := fun W => by rw [← ht7]; exact HB1.it t6 [10] (by have := M6.it; omega) (by decide) W
            have M7 : Aside (t7.length ≤ 1099511627776 + 98) := ⟨by rw [← ht7]; have := M6.it; simp; omega⟩
            have HF : Aside (X ++ lineT (dk, dr) = t7) := ⟨by
              rw [HT5.it, HTC.it, HTE.it]
              try simp only [List.append_nil]
              rw [ht6, ht7]⟩
            clear hcl hen ht6 ht7
            go_wp2_with fail
            go_roundw
            case rel => exact ⟨j + 1, by go_num, by omega, by rw [HTX.it, HF.it], KF⟩
            case measure => simp [natOfT]; omega
        | false =>
          rw [hcl] at r3
          have HTC : Aside (tailC dr = []) := ⟨by unfold tailC; rw [hcl]; rfl⟩
          cases hen : dr.en with
          | true =>
            rw [hen] at r4
            have HTE : Aside (tailE dr = wEnded) := ⟨by unfold tailE; rw [hen]; rfl⟩
            obtain ⟨t6, ht6⟩ : ∃ t6, t5 ++ wEnded = t6 := ⟨_, rfl⟩
            have x6 : ∀ W, (Op.stringOp .add (str t5) (str wEnded)).run Tryd.prog W = .ok (.string (str t6)) W := fun W => by rw [← ht6]; exact HB1.it t5 wEnded (by have := M5.it; omega) (by decide) W
            have M6 : Aside (t6.length ≤ 1099511627776 + 88) := ⟨by rw [← ht6]; have := M5.it; simp; omega⟩
            obtain ⟨t7, ht7⟩ : ∃ t7, t6 ++ [10] = t7 := ⟨_, rfl⟩
            have x7 : ∀ W, (Op.stringOp .add (str t6) (str [10])).run Tryd.prog W = .ok (.string (str t7)) W := fun W => by rw [← ht7]; exact HB1.it t6 [10] (by have := M6.it; omega) (by decide) W
            have M7 : Aside (t7.length ≤ 1099511627776 + 98) := ⟨by rw [← ht7]; have := M6.it; simp; omega⟩
            have HF : Aside (X ++ lineT (dk, dr) = t7) := ⟨by
              rw [HT5.it, HTC.it, HTE.it]
              try simp only [List.append_nil]
              rw [ht6, ht7]⟩
            clear hcl hen ht6 ht7
            go_wp2_with fail
            go_roundw
            case rel => exact ⟨j + 1, by go_num, by omega, by rw [HTX.it, HF.it], KF⟩
            case measure => simp [natOfT]; omega
          | false =>
            rw [hen] at r4
            have HTE : Aside (tailE dr = []) := ⟨by unfold tailE; rw [hen]; rfl⟩
            obtain ⟨t6, ht6⟩ : ∃ t6, t5 ++ [10] = t6 := ⟨_, rfl⟩
            have x6 : ∀ W, (Op.stringOp .add (str t5) (str [10])).run Tryd.prog W = .ok (.string (str t6)) W := fun W => by rw [← ht6]; exact HB1.it t5 [10] (by have := M5.it; omega) (by decide) W
            have M6 : Aside (t6.length ≤ 1099511627776 + 88) := ⟨by rw [← ht6]; have := M5.it; simp; omega⟩
            have HF : Aside (X ++ lineT (dk, dr) = t6) := ⟨by
              rw [HT5.it, HTC.it, HTE.it]
              try simp only [List.append_nil]
              rw [ht6]⟩
            clear hcl hen ht6
            go_wp2_with fail
            go_roundw
            case rel => exact ⟨j + 1, by go_num, by omega, by rw [HTX.it, HF.it], KF⟩
            case measure => simp [natOfT]; omega
end Go.Proofs.YteojdangidnnkaaDoor
