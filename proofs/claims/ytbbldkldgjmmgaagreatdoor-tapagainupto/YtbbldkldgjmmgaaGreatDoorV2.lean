import Derived.Test.YtbbldkldgjmmgaaGreatDoorTTpY
import Derived.Lib.SlBytesConst
import Derived.Laws.StructEq
import Derived.Laws.Concat
/-
  law 26: wakes
-/
namespace Go.Proofs.YtbbldkldgjmmgaaGreatDoor
open Go.RowKit Go.Maps
attribute [-go_sem] run_index_string

theorem dd1 {n : Nat} (h : n < 10) : Lib.decDigits n = [UInt8.ofNat (48 + n)] := by rw [Lib.decDigits, dif_pos h]
abbrev s1 : List UInt8 := [100, 97, 116, 97, 32, 115, 121, 110, 32, 102, 105, 110, 32, 115, 116, 114, 101, 97, 109, 32, 51, 32, 108, 101, 110, 103, 116, 104, 32, 50, 32, 97, 37, 50, 48]
abbrev s2 : List UInt8 := [112, 105, 110, 103, 32, 115, 121, 110, 32, 115, 116, 114, 101, 97, 109, 32, 48, 32, 108, 101, 110, 103, 116, 104, 32, 55]
abbrev s3 : List UInt8 := [112, 105, 110, 103, 32, 97, 99, 107, 32, 115, 116, 114, 101, 97, 109, 32, 48, 32, 108, 101, 110, 103, 116, 104, 32, 57]
abbrev s4 : List UInt8 := [98, 121, 116, 101, 115, 32, 37, 48, 48, 37, 48, 49]
abbrev sr : List UInt8 := [35, 32, 97, 32, 114, 101, 109, 97, 114, 107]
abbrev tx : List UInt8 := sr ++ 10 :: ([] ++ 10 :: (s3 ++ 10 :: (s4 ++ 10 :: [])))
theorem l1 : lineB 0 0 5 3 2 [97, 32] = s1 := by
  have e : txB 0 0 5 3 2 = [100, 97, 116, 97, 32, 115, 121, 110, 32, 102, 105, 110, 32, 115, 116, 114, 101, 97, 109, 32, 51, 32, 108, 101, 110, 103, 116, 104, 32, 50] := by
    unfold txB kiB verB flsB furB endB
    rw [show (3 : Int).toNat = 3 from rfl, show (2 : Int).toNat = 2 from rfl, dd1 (by decide), dd1 (by decide)]
    decide +kernel
  unfold lineB
  rw [e]
  decide +kernel
theorem l2 : lineB 0 2 1 0 7 [] = s2 := by
  unfold lineB txB kiB verB flsB furB endB
  rw [show (0 : Int).toNat = 0 from rfl, show (7 : Int).toNat = 7 from rfl, dd1 (by decide), dd1 (by decide)]
  decide +kernel
theorem l3 : lineB 0 2 2 0 9 [] = s3 := by
  unfold lineB txB kiB verB flsB furB endB
  rw [show (0 : Int).toNat = 0 from rfl, show (9 : Int).toNat = 9 from rfl, dd1 (by decide), dd1 (by decide)]
  decide +kernel
theorem l4 : byB ++ 32 :: tb [0, 1] = s4 := by decide +kernel
abbrev hW : List Int := [0, 2, 0, 2, 0, 0, 0, 0, 0, 0, 0, 9]
theorem txSplit : Tp.spU 10 tx = [sr, [], s3, s4, []] := by decide +kernel
theorem encW : enc 0 2 2 0 9 = hW := by decide +kernel
theorem wrAll : ∀ (i : Nat) (x : List UInt8), (Tp.spU 10 tx)[i]? = some x → ∃ ms : List Int, ([[], [], hW, [0, 1], []] : List (List Int))[i]? = some ms ∧ Wr x ms := by
  intro i x hx
  rw [txSplit] at hx
  have hi : i = 0 ∨ i = 1 ∨ i = 2 ∨ i = 3 ∨ i = 4 := by have := (List.getElem?_eq_some_iff.1 hx).1; simp at this; omega
  rcases hi with rfl | rfl | rfl | rfl | rfl
  · simp only [List.getElem?_cons_zero, Option.some.injEq] at hx
    subst hx
    exact ⟨[], rfl, Wr.remark [] [97, 32, 114, 101, 109, 97, 114, 107] (by decide) (by decide) (by decide)⟩
  · simp only [List.getElem?_cons_zero, List.getElem?_cons_succ, Option.some.injEq] at hx
    subst hx
    exact ⟨[], rfl, Wr.none⟩
  · simp only [List.getElem?_cons_zero, List.getElem?_cons_succ, Option.some.injEq] at hx
    subst hx
    refine ⟨hW, rfl, ?_⟩
    have := Wr.frame 0 2 2 0 9 [] ⟨by decide, by decide, by decide, by decide, by decide, by decide, by decide, by decide, by decide, by decide⟩ (by decide) (fun n hn => by cases hn) (by decide)
    rwa [l3, encW, List.append_nil] at this
  · simp only [List.getElem?_cons_zero, List.getElem?_cons_succ, Option.some.injEq] at hx
    subst hx
    refine ⟨[0, 1], rfl, ?_⟩
    have := Wr.bytes [0, 1] (fun n hn => by simp at hn; omega) (by decide)
    rwa [l4] at this
  · simp only [List.getElem?_cons_zero, List.getElem?_cons_succ, Option.some.injEq] at hx
    subst hx
    exact ⟨[], rfl, Wr.none⟩
theorem ckW : ckH 3 hW = true := by decide +kernel
theorem szW : szN hW = 0 := by decide +kernel
theorem prsW : prs 3 ([] ++ (hW ++ [0, 1])) = ⟨[(hW, [])], [0, 1], none⟩ := by
  have := parse_frame (ck := ckH 3) (sz := szN) hW [] [0, 1] rfl ckW (by rw [szW]; rfl)
  have p2 : parse (ckH 3) szN [0,1] = ⟨[], [0,1], none⟩ := parse_short (by decide)
  rw [p2] at this
  exact this
theorem linesW : linesB [(hW, [])] = s3 ++ [10] := by
  have e : lineH (hW, []) = s3 := by
    have h : dV hW = 0 ∧ dT hW = 2 ∧ dF hW = 2 ∧ dS hW = 0 ∧ dL hW = 9 := by decide +kernel
    unfold lineH
    rw [h.1, h.2.1, h.2.2.1, h.2.2.2.1, h.2.2.2.2]
    exact l3
  unfold linesB
  rw [List.flatMap_cons, List.flatMap_nil, List.append_nil, e]

end Go.Proofs.YtbbldkldgjmmgaaGreatDoor

/-
  law 26: wakes, walked
-/
namespace Go.Proofs.YtbbldkldgjmmgaaGreatDoor
open Go.RowKit Go.Maps
attribute [-go_sem] run_index_string

section
variable {v t f s l v2 t2 f2 s2 l2 : Int}
set_option maxRecDepth 100000 in
theorem hdr_eql (w : World) : (binOp .eql 31 (hdr v t f s l) (hdr v2 t2 f2 s2 l2)).run Tryz.prog w = .ok (.bool (decide (v = v2 ∧ t = t2 ∧ f = f2 ∧ s = s2 ∧ l = l2))) w := by
  have hst : Tryz.prog.stoodInHeld 31 = false := by kernel_rfl
  have hfo : Tryz.prog.underlying 31 = some (.struct (Tryz.prog.fieldsOf 31)) := by kernel_rfl
  have h := run_equalIn_agg (P := Tryz.prog) (w := w) 9999 31 #[.int .u8 v, .int .u8 t, .int .u16 f, .int .u32 s, .int .u32 l] #[.int .u8 v2, .int .u8 t2, .int .u16 f2, .int .u32 s2, .int .u32 l2] hfo hst
  rw [run_eql_struct, h]
  clear h hst hfo
  simp only [Program.fieldsOf, Tryz.underlying31]
  by_cases e0 : v = v2
  · by_cases e1 : t = t2
    · by_cases e2 : f = f2
      · by_cases e3 : s = s2
        · by_cases e4 : l = l2
          · simp [Op.eqFields, go_sem, e0, e1, e2, e3, e4]
          · simp [Op.eqFields, go_sem, e0, e1, e2, e3, e4]
        · simp [Op.eqFields, go_sem, e0, e1, e2, e3]
      · simp [Op.eqFields, go_sem, e0, e1, e2]
    · simp [Op.eqFields, go_sem, e0, e1]
  · simp [Op.eqFields, go_sem, e0]
set_option maxRecDepth 100000 in
theorem hdr_neq (w : World) : (binOp .neq 31 (hdr v t f s l) (hdr v t f s l)).run Tryz.prog w = .ok (.bool false) w := by
  have h := hdr_eql (v := v) (t := t) (f := f) (s := s) (l := l) (v2 := v) (t2 := t) (f2 := f) (s2 := s) (l2 := l) w
  have hst : Tryz.prog.stoodInHeld 31 = false := by kernel_rfl
  have hfo : Tryz.prog.underlying 31 = some (.struct (Tryz.prog.fieldsOf 31)) := by kernel_rfl
  have h := run_equalIn_agg (P := Tryz.prog) (w := w) 9999 31 #[.int .u8 v, .int .u8 t, .int .u16 f, .int .u32 s, .int .u32 l] #[.int .u8 v, .int .u8 t, .int .u16 f, .int .u32 s, .int .u32 l] hfo hst
  rw [run_neq_struct, h]
  clear h hst hfo
  simp only [Program.fieldsOf, Tryz.underlying31]
  simp [Op.eqFields, go_sem]
end
theorem strW : strOf (hW ++ [0, 1]) = ⟨#[0, 2, 0, 2, 0, 0, 0, 0, 0, 0, 0, 9, 0, 1]⟩ := by kernel_rfl
theorem str_runW {W : World} {x : Value} (h : Rd W x (hW ++ [0, 1])) : (convert 32 9 x).run Tryz.prog W = .ok (.string ⟨#[0, 2, 0, 2, 0, 0, 0, 0, 0, 0, 0, 9, 0, 1]⟩) W := by
  have sc := run_bytesStr (P := Tryz.prog) W 32 9 5 _ _ Tryz.underlying32 Tryz.underlying5 Tryz.underlying9 h.holds
  rw [strW] at sc
  exact sc
theorem rd_newf (w : World) (ns : List Int) (n : Nat) (fz : Nat × Nat) (hn : ns.length = n) : Rd (w.alloc (.cells (ns.map (Value.int .u8)).toArray 5 fz)) (.slice (some ⟨w.heap.size, 0, none⟩) n n) ns := by
  subst hn
  have := reads_mark Nowhere w 5 (bv ns) fz (fun x => x)
  rw [bv_length] at this
  exact ⟨this, fun l c e => by cases e⟩
set_option maxRecDepth 20000 in
set_option maxHeartbeats 4000000 in
theorem awake26 {A : Nat → Addr} (w : World) (hB : Base A w) (hW : Words w) :
    Calls Tryz.prog 4 #[] w fun e w' => e = .returned (.bool true) ∧ Aside (Below w.heap.size w w') := by
  have HB := Aside.mk hB
  have HW := Aside.mk hW
  clear hB hW
  go_enter Tryz.func4, Tryz.ntmps4
  have PA : Aside (∀ W, Below w.heap.size w W → Calls Tryz.prog 11 #[.string (str s2)] W fun e w' => ∃ a c, e = .returned (.tuple #[frm 0 2 1 0 7 (.slice a 0 c), .nilIface]) ∧ Aside (Below W.heap.size W w')) := ⟨fun W hb => by
    have := parse_at (v := 0) (t := 2) (f := 1) (s := 0) (l := 7) (ns := []) W (HW.it.later hb) ⟨by decide, by decide, by decide, by decide, by decide, by decide, by decide, by decide, by decide, by decide⟩ (by decide) (fun n hn => by cases hn) (by decide)
    rw [l2] at this
    refine this.mono ?_
    rintro e w' ⟨d, h1, hr, h2⟩
    obtain ⟨a, c, rfl⟩ := hr.it.shape
    exact ⟨a, c, h1, h2⟩⟩
  have AS : Aside (∀ W, Below w.heap.size w W → Calls Tryz.prog 8 #[.string (str tx)] W fun e w' => ∃ q n c, e = .returned (.tuple #[.slice q n c, .nilIface]) ∧ Aside (Rd w' (.slice q n c) (hW ++ [0, 1])) ∧ Aside (Below W.heap.size W w')) := ⟨fun W hb => by
    exact assemble_at (A := A) (NS := [[], [], hW, [0, 1], []]) W (HB.it.s.later hb) (HW.it.later hb) wrAll (by rw [txSplit]; rfl) (by decide) (by decide)⟩
  have NW : Aside (∀ W, Below w.heap.size w W → Calls Tryz.prog 12 #[.int .i64 3] W fun e w' => ∃ p dp own', e = .returned (.tuple #[ptr p, .nilIface]) ∧ Aside (TapO A W own' w' p dp 3 [] 0 ∧ (∀ k, k < W.heap.size → own' k = 0) ∧ Keeps Nowhere W w')) := ⟨fun W hb =>
    tapNew_at (own := fun _ => 0) ⟨HB.it.later hb, ⟨fun _ _ => rfl, Below.refl _ _, Nat.le_refl _⟩⟩ (by decide) (by decide)⟩
  have LN : Aside (∀ W d, Below w.heap.size w W → Rd W d [97, 32] → Calls Tryz.prog 5 #[frm 0 0 5 3 2 d] W fun e w' => e = .returned (.tuple #[.string (str s1), .nilIface]) ∧ Aside (Below W.heap.size W w')) := ⟨fun W d hb hr => by
    refine (line_at (A := A) W (HB.it.s.later hb) (HW.it.later hb) ⟨by decide, by decide, by decide, by decide, by decide, by decide, by decide, by decide, by decide, by decide⟩ hr (fun n hn => by simp at hn; omega) (by decide)).mono ?_
    rintro e w' ⟨h1 | h1, h2⟩
    · rw [l1] at h1; exact ⟨h1.2, h2⟩
    · exact absurd rfl h1.1⟩
  have KC := fun (w : World) (C : Array Value) (n c : Nat) => Lib.run_convert_bytes_const (P := Tryz.prog) w 32 5 C n c Tryz.underlying32 Tryz.underlying5
  go_upto_region 2 with fail
  refine (LN.it _ _ (alloc_below _ _) (rd_newf w [97, 32] 2 (2, 3) rfl)).mono ?_
  rintro e w1 ⟨rfl, K1⟩
  have B1 : Aside (Below w.heap.size w w1) := ⟨(alloc_below _ _).trans (K1.it.mono (alloc_below _ _).size)⟩
  clear K1 LN KC
  go_upto_region 2 with fail
  go_upto_region 3 with (first | (go_at_call 11; refine (PA.it _ B1.it).mono ?_; rintro e w2 ⟨da, dc, rfl, K2⟩) | fail)
  have B2 : Aside (Below w.heap.size w w2) := ⟨B1.it.trans (K2.it.mono B1.it.size)⟩
  clear K2 PA
  have F3 := FB.new w2 0 2 1 0 7 (.slice da 0 dc)
  obtain ⟨w3, hw3⟩ : ∃ w3, w2.alloc (fbox 0 2 1 0 7 (.slice da 0 dc)) = w3 := ⟨_, rfl⟩
  have B3 : Aside (Below w.heap.size w w3) := ⟨by rw [← hw3]; exact B2.it.trans ((alloc_below _ _).mono B2.it.size)⟩
  have F3 := Aside.mk F3
  rw [hw3] at F3 ⊢
  clear hw3
  obtain ⟨fb, hfb⟩ : ∃ fb, w2.heap.size = fb := ⟨_, rfl⟩
  rw [hfb] at F3 ⊢
  clear hfb B2 B1
  go_upto_region 4 with (first | (go_at_call 8; refine (AS.it _ B3.it).mono ?_; rintro e w4 ⟨q, n, c, rfl, R4, K4⟩) | fail)
  have B4 : Aside (Below w.heap.size w w4) := ⟨B3.it.trans (K4.it.mono B3.it.size)⟩
  have F4 := Aside.mk (F3.it.later K4.it)
  clear K4 AS B3 F3
  go_upto_region 5 with (first | (go_at_call 12; refine (NW.it _ B4.it).mono ?_; rintro e w5 ⟨p, dp, own5, rfl, X5⟩) | fail)
  have K5 : Aside (Keeps Nowhere w4 w5) := ⟨X5.it.2.2⟩
  have B5 : Aside (Below w.heap.size w w5) := ⟨B4.it.trans (K5.it.bel.mono B4.it.size)⟩
  have F5 := Aside.mk (F4.it.later K5.it.bel)
  have HR : Aside (RdS (fun k => own5 k = 1) w5 (.slice q n c) (hW ++ [0, 1])) := ⟨(RdS.later (S := Nowhere) R4.it K5.it).mono (fun k h1 _ => .inr (by rcases Nat.lt_or_ge k w4.heap.size with h | h; have := X5.it.2.1 k h; omega; exact h))⟩
  have W4 := Aside.mk (HW.it.later B4.it)
  have X5 := Aside.mk X5.it.1
  clear NW F4 R4 K5
  go_upto_region 7 with fail
  obtain ⟨⟨c0, c1, c2, c3, c4⟩, c5⟩ := F5.it
  have NE := fun W => hdr_neq (v := 0) (t := 2) (f := 1) (s := 0) (l := 7) W
  have SC := str_runW HR.it.rd
  have FE : Aside (Calls Tryz.prog 13 #[ptr p, .slice q n c] w5 fun e w' => e = .returned (.string (str (s3 ++ [10]))) ∧ Aside (Below w.heap.size w w')) := ⟨by
    refine (tapFeed_at (A := A) W4.it X5.it HR.it (fun x hx => by simp at hx; omega) (by decide) (by decide) (by rw [prsW])).mono ?_
    rintro e w' ⟨rfl, X⟩
    obtain ⟨own', N', T', _, he, _⟩ := X.it
    rw [prsW]
    refine ⟨by rw [linesW], ⟨?_⟩⟩
    exact B4.it.trans (T'.g.g.bel.mono B4.it.size)⟩
  clear HR X5 W4
  go_wp2_with (first | (go_at_call 13; refine FE.it.mono ?_; rintro e w6 ⟨rfl, B6⟩) | fail)
  go_ret
  refine ⟨?_, B6⟩
  rfl
end Go.Proofs.YtbbldkldgjmmgaaGreatDoor

