/-
  package trace: Text
-/
import Derived.Test.YtambdgcogldbgaaDoorTrF
import Derived.Deep.RegionHeldLaw
namespace Go.Proofs.YtambdgcogldbgaaDoor
open Go.RowKit Go.Maps

variable {own own' : Nat → Nat} {i p T mb B : Nat} {w w' w1 : World} {L : Hs} {I : Nat → Prop} {k : Int} {b : Nat} {v : Value} {r : Rc} {F : Int → Option (Nat × Value)} {A : Nat → Addr}

abbrev wWritten : List UInt8 := [32, 119, 114, 105, 116, 116, 101, 110, 32]
abbrev wRead : List UInt8 := [32, 114, 101, 97, 100, 32]
abbrev wClosed : List UInt8 := [32, 99, 108, 111, 115, 101, 100]
abbrev wEnded : List UInt8 := [32, 101, 110, 100, 101, 100]
def headT (x : Int × Rc) : List UInt8 := Lib.itoa x.1 ++ wWritten ++ Lib.itoa ((x.2.wr.length : Nat) : Int) ++ wRead ++ Lib.itoa ((x.2.rd : Nat) : Int)
def tailC (r : Rc) : List UInt8 := if r.cl then wClosed else []
def tailE (r : Rc) : List UInt8 := if r.en then wEnded else []
def lineT (x : Int × Rc) : List UInt8 := headT x ++ tailC x.2 ++ tailE x.2 ++ [10]
def textT (L : Hs) : List UInt8 := L.flatMap lineT
theorem textT_snoc (L : Hs) (x : Int × Rc) : textT (L ++ [x]) = textT L ++ lineT x := by simp [textT, List.flatMap_append]
theorem itoa_len {n : Int} (h : Zw n) : (Lib.itoa n).length ≤ 21 := Lib.itoa_length_le n h.1 h.2
theorem zw_nat {n : Nat} (h : n ≤ 9223372036854775807) : Zw ((n : Nat) : Int) := ⟨by omega, by omega⟩
theorem head_len {x : Int × Rc} (hk : Zw x.1) (hr : x.2.Ok T) (hT : T ≤ 70368744177664) : (headT x).length ≤ 78 := by
  have h1 := itoa_len hk
  have h2 := itoa_len (zw_nat (n := x.2.wr.length) (by have := hr.len; omega))
  have h3 := itoa_len (zw_nat (n := x.2.rd) (by have := hr.len; have := hr.rd; omega))
  simp only [headT, List.length_append, List.length_cons, List.length_nil]
  omega
theorem line_len {x : Int × Rc} (hk : Zw x.1) (hr : x.2.Ok T) (hT : T ≤ 70368744177664) : (lineT x).length ≤ 92 := by
  have h1 := head_len hk hr hT
  have h2 : (tailC x.2).length ≤ 7 := by unfold tailC; split <;> simp
  have h3 : (tailE x.2).length ≤ 6 := by unfold tailE; split <;> simp
  simp only [lineT, List.length_append, List.length_cons, List.length_nil]
  omega
theorem text_len {L : Hs} (h : TOk T L) (hT : T ≤ 70368744177664) : (textT L).length ≤ L.length * 92 := by
  have hk := h.kb
  have hr := h.rb
  clear h
  induction L with
  | nil => simp [textT]
  | cons x L ih =>
    have h1 := line_len (hk x (.head _)) (hr x (.head _)) hT
    have h2 := ih (fun y hy => hk y (.tail _ hy)) (fun y hy => hr y (.tail _ hy))
    have e : textT (x :: L) = lineT x ++ textT L := rfl
    rw [e, List.length_append, List.length_cons]
    omega
/-- within the line: the builder and the box -/
def Lw (B : Nat) (w : World) (b pb n2 n3 : Nat) (c d : Bool) (l : List UInt8) (W : World) : Prop := ∃ v5, Bld B W b v5 l ∧ Cells W pb 53 [.int .i64 n2, .int .i64 n3, .bool c, .bool d] ∧ Keeps (fun k => k = b ∨ B ≤ k) w W ∧ B ≤ W.heap.size ∧ pb ≠ b
theorem Lw.ws {n2 n3 pb : Nat} {c d : Bool} {l s : List UInt8} (h : Aside (Lw B w1 b pb n2 n3 c d l w)) (hl : l.length + s.length ≤ 140737488355328) : Calls Tryd.prog 37 #[ptr b, .string (str s)] w fun e w' => e = .returned (.tuple #[.int .i64 s.length, .nilIface]) ∧ Aside (Lw B w1 b pb n2 n3 c d (l ++ s) w') := by
  obtain ⟨v5, hb, hc, hk, hB, hn⟩ := h.it
  refine (ws_at hb hB hl).mono ?_
  rintro e w' ⟨v', rfl, X⟩
  refine ⟨rfl, ⟨v', X.it.1, hc.later X.it.2 (fun e => ?_), hk.trans (X.it.2.mono (fun g e _ => e.elim .inl (fun e => .inr (owns_base hb.r g e)))), Nat.le_trans hB X.it.2.size, hn⟩⟩
  rcases e with e | e
  · exact hn e
  · exact cells_row_ne hc hb.r (by decide) e
theorem Lw.cells {n2 n3 pb : Nat} {c d : Bool} {l : List UInt8} (h : Lw B w1 b pb n2 n3 c d l w) : w.cell? ⟨pb, 0, none⟩ = some (.int .i64 n2) ∧ w.cell? ⟨pb, 1, none⟩ = some (.int .i64 n3) ∧ w.cell? ⟨pb, 2, none⟩ = some (.bool c) ∧ w.cell? ⟨pb, 3, none⟩ = some (.bool d) := by
  obtain ⟨v5, hb, hc, hk, hB, hn⟩ := h
  exact ⟨by rw [hc.cell]; rfl, by rw [hc.cell]; rfl, by rw [hc.cell]; rfl, by rw [hc.cell]; rfl⟩
theorem past_cells {pb : Nat} {n2 n3 : Nat} {c d : Bool} (C1 : Aside (Cells w1 pb 53 [.int .i64 n2, .int .i64 n3, .bool c, .bool d])) (hk : Aside (Keeps Nowhere w1 w)) : w.cell? ⟨pb, 0, none⟩ = some (.int .i64 n2) ∧ w.cell? ⟨pb, 1, none⟩ = some (.int .i64 n3) := by
  have h := C1.it.later hk.it (fun x => x)
  exact ⟨by rw [h.cell]; rfl, by rw [h.cell]; rfl⟩

theorem past_cellsL {n2 n3 pb : Nat} {c d : Bool} {l : List UInt8} (h : Aside (Lw B w1 b pb n2 n3 c d l w)) : w.cell? ⟨pb, 0, none⟩ = some (.int .i64 n2) ∧ w.cell? ⟨pb, 1, none⟩ = some (.int .i64 n3) := ⟨h.it.cells.1, h.it.cells.2.1⟩
set_option maxRecDepth 20000 in
set_option maxHeartbeats 4000000 in
theorem line_at {l : List UInt8} {x : Int × Rc} (hp : PowT w) (h : Bld B w b v l) (hB : B ≤ w.heap.size) (hk : Zw x.1) (hr : x.2.Ok T) (hT : T ≤ 70368744177664) (hl : l.length ≤ 1099511627776) :
    Calls Tryd.prog 36 #[.int .i64 x.1, pastV x.2, ptr b] w fun e w' => e = .returned (.tuple #[]) ∧ ∃ v', Aside (Bld B w' b v' (l ++ lineT x) ∧ Keeps (fun k => k = b ∨ B ≤ k) w w') := by
  obtain ⟨k, r⟩ := x
  simp only at hk hr
  have hz2 : Zw ((r.wr.length : Nat) : Int) := zw_nat (by have := hr.len; omega)
  have hz3 : Zw ((r.rd : Nat) : Int) := zw_nat (by have := hr.len; have := hr.rd; omega)
  have l1 := itoa_len hk
  have l2 := itoa_len hz2
  have l3 := itoa_len hz3
  have HL := Aside.mk (show lineT (k, r) = headT (k, r) ++ tailC r ++ tailE r ++ [10] from rfl)
  have HH := Aside.mk (show headT (k, r) = Lib.itoa k ++ wWritten ++ Lib.itoa ((r.wr.length : Nat) : Int) ++ wRead ++ Lib.itoa ((r.rd : Nat) : Int) from rfl)
  obtain ⟨n2, hn2⟩ : ∃ n2 : Nat, r.wr.length = n2 := ⟨_, rfl⟩
  obtain ⟨n3, hn3⟩ : ∃ n3 : Nat, r.rd = n3 := ⟨_, rfl⟩
  simp only [pastV, hn2, hn3] at *
  obtain ⟨s1, hs1⟩ : ∃ s1, Lib.itoa k = s1 := ⟨_, rfl⟩
  obtain ⟨s2, hs2⟩ : ∃ s2, Lib.itoa ((n2 : Nat) : Int) = s2 := ⟨_, rfl⟩
  obtain ⟨s3, hs3⟩ : ∃ s3, Lib.itoa ((n3 : Nat) : Int) = s3 := ⟨_, rfl⟩
  rw [hs1] at l1 HH
  rw [hs2] at l2 HH
  rw [hs3] at l3 HH
  obtain ⟨t1, ht1⟩ : ∃ t1, s1 ++ wWritten = t1 := ⟨_, rfl⟩
  obtain ⟨t2, ht2⟩ : ∃ t2, t1 ++ s2 = t2 := ⟨_, rfl⟩
  obtain ⟨t3, ht3⟩ : ∃ t3, t2 ++ wRead = t3 := ⟨_, rfl⟩
  obtain ⟨t4, ht4⟩ : ∃ t4, t3 ++ s3 = t4 := ⟨_, rfl⟩
  have m1 : t1.length ≤ 30 := by rw [← ht1]; simp; omega
  have m2 : t2.length ≤ 51 := by rw [← ht2]; simp; omega
  have m3 : t3.length ≤ 57 := by rw [← ht3]; simp; omega
  have m4 : t4.length ≤ 78 := by rw [← ht4]; simp; omega
  have a1 : ∀ W, (Op.stringOp .add (str s1) (str wWritten)).run Tryd.prog W = .ok (.string (str t1)) W := fun W => by rw [← ht1]; exact add_str s1 wWritten (by simp; omega) W
  have a2 : ∀ W, (Op.stringOp .add (str t1) (str s2)).run Tryd.prog W = .ok (.string (str t2)) W := fun W => by rw [← ht2]; exact add_str t1 s2 (by omega) W
  have a3 : ∀ W, (Op.stringOp .add (str t2) (str wRead)).run Tryd.prog W = .ok (.string (str t3)) W := fun W => by rw [← ht3]; exact add_str t2 wRead (by simp; omega) W
  have a4 : ∀ W, (Op.stringOp .add (str t3) (str s3)).run Tryd.prog W = .ok (.string (str t4)) W := fun W => by rw [← ht4]; exact add_str t3 s3 (by omega) W
  have HT4 : Aside (headT (k, r) = t4) := ⟨by rw [HH.it, ht1, ht2, ht3, ht4]⟩
  have bd4 : Aside (l.length + t4.length ≤ 140737488355328) := ⟨by omega⟩
  have bd5 : Aside ((l ++ t4).length + wClosed.length ≤ 140737488355328) := ⟨by simp; omega⟩
  have bd6 : Aside (((l ++ t4) ++ wClosed).length + wEnded.length ≤ 140737488355328) := ⟨by simp; omega⟩
  have bd7 : Aside ((((l ++ t4) ++ wClosed) ++ wEnded).length + [(10 : UInt8)].length ≤ 140737488355328) := ⟨by simp; omega⟩
  have bd8 : Aside (((l ++ t4) ++ wClosed).length + [(10 : UInt8)].length ≤ 140737488355328) := ⟨by simp; omega⟩
  have bd9 : Aside ((l ++ t4).length + wEnded.length ≤ 140737488355328) := ⟨by simp; omega⟩
  have bd10 : Aside (((l ++ t4) ++ wEnded).length + [(10 : UInt8)].length ≤ 140737488355328) := ⟨by simp; omega⟩
  have bd11 : Aside ((l ++ t4).length + [(10 : UInt8)].length ≤ 140737488355328) := ⟨by simp; omega⟩
  obtain ⟨pb, hpb⟩ : ∃ pb, w.heap.size = pb := ⟨_, rfl⟩
  obtain ⟨w1, hw1⟩ : ∃ w1, w.alloc (.cells #[.int .i64 n2, .int .i64 n3, .bool r.cl, .bool r.en] 53) = w1 := ⟨_, rfl⟩
  have K1 : Aside (Keeps Nowhere w w1) := ⟨by rw [← hw1]; exact (Keeps.refl _ _).alloc _⟩
  have C1 : Aside (Cells w1 pb 53 [.int .i64 n2, .int .i64 n3, .bool r.cl, .bool r.en]) := ⟨by rw [← hw1, ← hpb]; exact Cells.new w _ _⟩
  have B1 := Aside.mk (h.later K1.it (fun x => x) (fun _ _ x => x))
  have P1 := Aside.mk (powT_later hp K1.it.bel)
  have hB1 : Aside (B ≤ w1.heap.size) := ⟨Nat.le_trans hB K1.it.size⟩
  have KD : Aside (Keeps Nowhere w1 w1.drew) := ⟨(Keeps.refl _ _).drew⟩
  have L1 : Aside (∀ W, Keeps Nowhere w1 W → Lw B w b pb n2 n3 r.cl r.en l W) := ⟨fun W hk => ⟨v, B1.it.later hk (fun x => x) (fun _ _ x => x), C1.it.later hk (fun x => x), (K1.it.trans hk).mono (fun _ e _ => e.elim), Nat.le_trans hB1.it hk.size, by have := h.lt; omega⟩⟩
  have itA : ∀ {W n s}, Lib.itoa n = s → Zw n → Aside (Keeps Nowhere w1 W) → Calls Tryd.prog 38 #[.int .i64 n] W fun e w' => e = .returned (.string (str s)) ∧ Aside (Keeps Nowhere w1 w') := fun e hz hk => by rw [← e]; exact itoaK P1 hk hz
  have IT := Aside.mk (And.intro (fun W => itA (W := W) hs1 hk) (And.intro (fun W => itA (W := W) hs2 hz2) (fun W => itA (W := W) hs3 hz3)))
  clear hp h hB hk hr hT hl hz2 hz3 l1 l2 l3 HH ht1 ht2 ht3 ht4 m1 m2 m3 m4 hs1 hs2 hs3 itA hn2 hn3
  go_enter Tryd.func36, Tryd.ntmps36
  go_upto_region 1 with fail
  clear hw1 hpb
  go_cut [] (fun wx => Aside (Lw B w b pb n2 n3 r.cl r.en (l ++ t4) wx))
  case first =>
    go_region_held3 (fun w' => w'.cell? ⟨pb, 0, none⟩ = some (.int .i64 n2) ∧ w'.cell? ⟨pb, 1, none⟩ = some (.int .i64 n3)) (first | (with_reducible exact past_cells C1 (by with_reducible assumption)) | (with_reducible exact past_cellsL (by with_reducible assumption))) (first
      | (go_at_call 38; refine (IT.it.1 _ (by with_reducible assumption)).mono ?_; rintro e wA ⟨rfl, KA⟩)
      | (go_at_call 38; refine (IT.it.2.1 _ (by with_reducible assumption)).mono ?_; rintro e wB ⟨rfl, KB⟩)
      | (go_at_call 38; refine (IT.it.2.2 _ (by with_reducible assumption)).mono ?_; rintro e wC ⟨rfl, KC⟩)
      | (go_at_call 37; refine (Lw.ws ⟨L1.it _ (Aside.it (by with_reducible assumption))⟩ bd4.it).mono ?_; rintro e wD ⟨rfl, XD⟩)
      | fail)
    all_goals go_wp2_with fail
    all_goals go_meet
    all_goals exact XD
  case rest =>
    clear a1 a2 a3 a4 IT L1
    cases hcl : r.cl with
    | true =>
      rw [hcl] at hcut
      have W1 := Aside.mk (Lw.ws (s := wClosed) hcut bd5.it)
      have HC := Aside.mk (show tailC r = wClosed by unfold tailC; rw [hcl]; rfl)
      obtain ⟨x0, x1, x2, x3⟩ := hcut.it.cells
      clear hcl
      cases hen : r.en with
      | true =>
        rw [hen] at W1 x3
        have HE := Aside.mk (show tailE r = wEnded by unfold tailE; rw [hen]; rfl)
        clear hen hcut
        go_upto_region 4 with (first | (go_at_call 37; refine W1.it.mono ?_; rintro e w5 ⟨rfl, X5⟩) | fail)
        obtain ⟨y0, y1, y2, y3⟩ := X5.it.cells
        have W2 := Aside.mk (Lw.ws (s := wEnded) X5 bd6.it)
        clear x0 x1 x2 x3
        go_upto_region 6 with (first | (go_at_call 37; refine W2.it.mono ?_; rintro e w6 ⟨rfl, X6⟩) | fail)
        have W3 := Aside.mk (Lw.ws (s := [10]) X6 bd7.it)
        clear y0 y1 y2 y3
        go_wp2_with (first | (go_at_call 37; refine W3.it.mono ?_; rintro e w7 ⟨rfl, X7⟩) | fail)
        go_end0
        obtain ⟨v7, hb7, _, hk7, _⟩ := X7.it
        refine ⟨rfl, v7, ⟨?_, hk7⟩⟩
        rw [HL.it, HT4.it, HC.it, HE.it]
        simpa [List.append_assoc] using hb7
      | false =>
        rw [hen] at W1 x3
        have HE := Aside.mk (show tailE r = [] by unfold tailE; rw [hen]; rfl)
        clear hen hcut
        go_upto_region 4 with (first | (go_at_call 37; refine W1.it.mono ?_; rintro e w5 ⟨rfl, X5⟩) | fail)
        obtain ⟨y0, y1, y2, y3⟩ := X5.it.cells
        have W3 := Aside.mk (Lw.ws (s := [10]) X5 bd8.it)
        clear x0 x1 x2 x3
        go_wp2_with (first | (go_at_call 37; refine W3.it.mono ?_; rintro e w7 ⟨rfl, X7⟩) | fail)
        go_end0
        obtain ⟨v7, hb7, _, hk7, _⟩ := X7.it
        refine ⟨rfl, v7, ⟨?_, hk7⟩⟩
        rw [HL.it, HT4.it, HC.it, HE.it]
        simpa [List.append_assoc] using hb7
    | false =>
      rw [hcl] at hcut
      have HC := Aside.mk (show tailC r = [] by unfold tailC; rw [hcl]; rfl)
      obtain ⟨x0, x1, x2, x3⟩ := hcut.it.cells
      clear hcl
      cases hen : r.en with
      | true =>
        rw [hen] at hcut x3
        have HE := Aside.mk (show tailE r = wEnded by unfold tailE; rw [hen]; rfl)
        have W2 := Aside.mk (Lw.ws (s := wEnded) hcut bd9.it)
        clear hen hcut
        go_upto_region 6 with (first | (go_at_call 37; refine W2.it.mono ?_; rintro e w6 ⟨rfl, X6⟩) | fail)
        have W3 := Aside.mk (Lw.ws (s := [10]) X6 bd10.it)
        clear x0 x1 x2 x3
        go_wp2_with (first | (go_at_call 37; refine W3.it.mono ?_; rintro e w7 ⟨rfl, X7⟩) | fail)
        go_end0
        obtain ⟨v7, hb7, _, hk7, _⟩ := X7.it
        refine ⟨rfl, v7, ⟨?_, hk7⟩⟩
        rw [HL.it, HT4.it, HC.it, HE.it]
        simpa [List.append_assoc] using hb7
      | false =>
        rw [hen] at hcut x3
        have HE := Aside.mk (show tailE r = [] by unfold tailE; rw [hen]; rfl)
        have W3 := Aside.mk (Lw.ws (s := [10]) hcut bd11.it)
        clear hen hcut
        go_wp2_with (first | (go_at_call 37; refine W3.it.mono ?_; rintro e w7 ⟨rfl, X7⟩) | fail)
        go_end0
        obtain ⟨v7, hb7, _, hk7, _⟩ := X7.it
        refine ⟨rfl, v7, ⟨?_, hk7⟩⟩
        rw [HL.it, HT4.it, HC.it, HE.it]
        simpa [List.append_assoc] using hb7
end Go.Proofs.YtambdgcogldbgaaDoor
