/-
  package place: least, Pick
-/
import Derived.Test.YtnhgpnkomkiniaaDoorPlA
namespace Go.Proofs.YtnhgpnkomkiniaaDoor
open Go.RowKit

variable {A : Nat → Addr} {w w' W : World}

/-- a list of loads that can be read -/
def LdsAt (w : World) (v : Value) (zs : List LoadV) : Prop := ListAt LoadOk 4 w v zs
theorem LdsAt.read {a : Option Addr} {n c : Nat} {zs : List LoadV} (h : LdsAt w (.slice a n c) zs) (k : Nat) (hk : k < zs.length) :
    ∃ l d o f b s, zs[k]? = some ⟨l, d, o, f⟩ ∧ a = some ⟨b, s, none⟩ ∧ w.cell? ⟨b, s + k * 4, none⟩ = some (.bool l) ∧ w.cell? ⟨b, s + k * 4 + 1, none⟩ = some (.bool d) ∧ w.cell? ⟨b, s + k * 4 + 2, none⟩ = some (.int .i64 o) ∧ w.cell? ⟨b, s + k * 4 + 3, none⟩ = some (.int .i64 f) ∧ (-9223372036854775808 ≤ o ∧ o ≤ 9223372036854775807) ∧ (-9223372036854775808 ≤ f ∧ f ≤ 9223372036854775807) := by
  obtain ⟨a', cap, e, h1, h2, h3⟩ := h
  injection e with e1 e2 e3
  subst e1
  obtain ⟨⟨l, d, o', f⟩, ez⟩ : ∃ z, zs[k]? = some z := ⟨_, List.getElem?_eq_getElem (l := zs) (i := k) hk⟩
  obtain ⟨b, o, cs, ha, ⟨rfl, hb1, hb2⟩, hl, hc⟩ := h3 k _ ez
  exact ⟨l, d, o', f, b, o, ez, ha, hc 0 (by decide), hc 1 (by decide), hc 2 (by decide), hc 3 (by decide), hb1, hb2⟩
theorem LdsAt.later {v : Value} {zs : List LoadV} (h : LdsAt w v zs) (hb : Below w.heap.size w w') : LdsAt w' v zs := by
  obtain ⟨a, cap, e, h1, h2, h3⟩ := h
  refine ⟨a, cap, e, h1, h2, fun i z hz => ?_⟩
  obtain ⟨b, o, cs, ha, hg, hl, hc⟩ := h3 i z hz
  refine ⟨b, o, cs, ha, hg, hl, fun j hj => ?_⟩
  have := hc j hj
  rw [List.getElem?_eq_getElem (by omega)] at this ⊢
  rw [hb.cell (World.block_lt_of_cell? w _ this)]
  exact this
theorem LdsAt.quiet {v : Value} {zs : List LoadV} (h : LdsAt w v zs) (hk : Keeps Nowhere w w') : LdsAt w' v zs := h.later hk.bel
theorem LdsAt.len {a : Option Addr} {n c : Nat} {zs : List LoadV} (h : LdsAt w (.slice a n c) zs) : n = zs.length ∧ n ≤ c ∧ c ≤ maxLen := by
  obtain ⟨a', cap, e, h1, h2, h3⟩ := h
  injection e with e1 e2 e3
  subst e2 e3
  exact ⟨rfl, h1, h2⟩
theorem LdsAt.shape {v : Value} {zs : List LoadV} (h : LdsAt w v zs) : ∃ a c, v = .slice a zs.length c := by
  obtain ⟨a', cap, e, h1, h2, h3⟩ := h
  exact ⟨a', cap, e⟩

set_option maxHeartbeats 2000000 in
theorem least_ok (v : Value) (zs : List LoadV) (most : Int) (bm : Nat) (hv : LdsAt w v zs) (hc : w.cell? ⟨bm, 0, none⟩ = some (.int .i64 most)) :
    Calls Tryd.prog 14 #[v, .func (.func 15) #[] #[ptr bm]] w fun e w' => ∃ i : Int, e = .returned (.int .i64 i) ∧ Aside (Lst most zs zs.length i) ∧ Aside (Keeps Nowhere w w') := by
  obtain ⟨pa, ca, rfl⟩ := hv.shape
  obtain ⟨_, hla, hma⟩ := hv.len
  obtain ⟨n, hn⟩ : ∃ n, Aside (n = zs.length) := ⟨_, ⟨rfl⟩⟩
  have hl : n ≤ 9223372036854775807 := by unfold maxLen at hma; have := hn.it; omega
  have HV := Aside.mk hv
  have HC := Aside.mk hc
  rw [← hn.it] at HV ⊢
  clear hv hc hla hma
  go_enter Tryd.func14, Tryd.ntmps14
  go_wp2
  go_loopw [5, 10] (fun iv kv wr => ∃ (k : Nat) (i : Int), k ≤ n ∧ kv = .int .i64 k ∧ iv = .int .i64 i ∧ Aside (Lst most zs k i) ∧ Aside (Keeps Nowhere w wr)) (fun _ kv _ => n - natOf21 kv)
  case atStart => exact ⟨0, -1, Nat.zero_le _, rfl, rfl, ⟨.inl ⟨rfl, rfl⟩⟩, ⟨Keeps.refl _ _⟩⟩
  case round =>
    obtain ⟨k, i, hk, rfl, rfl, HL, HB⟩ := hrel
    by_cases hkl : k < n
    · obtain ⟨l, d, o, f, b, s, hz, rfl, r0, r1, r2, r3, ho, hf⟩ := (HV.it.quiet HB.it).read k (by rw [← hn.it]; exact hkl)
      have HZ := Aside.mk hz
      have i2 : (k : Int) < n := by omega
      have i3 : (0 : Int) ≤ k := by omega
      clear hz
      go_upto_region 5 with fail
      obtain ⟨W, hW⟩ : ∃ W, W = wr.alloc (.cells #[.bool l, .bool d, .int .i64 o, .int .i64 f] 23) := ⟨_, rfl⟩
      have K0 : Aside (Keeps Nowhere wr W) := ⟨by rw [hW]; exact (Keeps.refl _ _).alloc _⟩
      have B0 : Aside (Cells W wr.heap.size 23 [.bool l, .bool d, .int .i64 o, .int .i64 f]) := ⟨by rw [hW]; exact Cells.new wr _ _⟩
      rw [← hW]
      clear hW r0 r1 r2 r3
      have KW := Aside.mk (HB.it.trans K0.it)
      have a0 : W.cell? ⟨wr.heap.size, 0, none⟩ = some (.bool l) := by rw [B0.it.cell]; rfl
      have a1 : W.cell? ⟨wr.heap.size, 1, none⟩ = some (.bool d) := by rw [B0.it.cell]; rfl
      have a2 : W.cell? ⟨wr.heap.size, 2, none⟩ = some (.int .i64 o) := by rw [B0.it.cell]; rfl
      have a3 : W.cell? ⟨wr.heap.size, 3, none⟩ = some (.int .i64 f) := by rw [B0.it.cell]; rfl
      have ca0 := fun n => KeW.cell a0 n
      have ca1 := fun n => KeW.cell a1 n
      have ca2 := fun n => KeW.cell a2 n
      have ca3 := fun n => KeW.cell a3 n
      clear a0 a1 a2 a3 B0
      haveI : Nonempty (KeW W) := ⟨⟨W, Keeps.refl _ _⟩⟩
      generalize wr.heap.size = q0 at *
      rcases HL.it with ⟨rfl, rfl⟩ | ⟨a, rfl, ha, hx⟩
      · have hd : decide ((-1 : Int) < 0) = true := by decide
        refine wp_region_quietF (KeW.W (w1 := W)) (by kernel_rfl) (by kernel_rfl) ⟨W.drew, (Keeps.refl _ _).drew⟩ rfl ?_
        repeat (go_big_quiet_step (fail))
        refine wpQuiet_nil ?_
        rintro _ ⟨m, rfl⟩
        have Q := Aside.mk (KW.it.trans m.ok)
        generalize m.W = w11 at *
        clear ca0 ca1 ca2 ca3
        go_wp2
        go_roundw
        case rel => exact ⟨1, 0, by omega, by go_num, rfl, ⟨Lst.first HZ.it⟩, Q⟩
        case measure => simp [natOf21]; omega
      · clear hx
        obtain ⟨l', d', o', f', b', s', hz', e', r0, r1, r2, r3, ho', hf'⟩ := (HV.it.quiet KW.it).read a (by rw [← hn.it]; omega)
        injection e' with e1
        injection e1 with e1 e2
        subst e1 e2
        have HZ' := Aside.mk hz'
        have cb0 := fun n => KeW.cell r0 n
        have cb1 := fun n => KeW.cell r1 n
        have cb2 := fun n => KeW.cell r2 n
        have cb3 := fun n => KeW.cell r3 n
        have hcW : W.cell? ⟨bm, 0, none⟩ = some (.int .i64 most) := by rw [KW.it.bel.cell (World.block_lt_of_cell? w _ HC.it)]; exact HC.it
        have H := Aside.mk (KeW.call (w1 := W) (fun W' kk => less_ok l d o f l' d' o' f' most bm (KeW.cell hcW ⟨W', kk⟩)))
        have hd : decide ((a : Int) < 0) = false := by simp
        have j2 : (a : Int) < n := by omega
        have j3 : (0 : Int) ≤ a := by omega
        clear r0 r1 r2 r3 hz' hcW
        refine wp_region_quietF (KeW.W (w1 := W)) (by kernel_rfl) (by kernel_rfl) ⟨W.drew, (Keeps.refl _ _).drew⟩ rfl ?_
        repeat (go_big_quiet_step (first | (go_at_call 15; exact H.it _)))
        refine wpQuiet_nil ?_
        rintro _ ⟨m, rfl⟩
        have Q := Aside.mk (KW.it.trans m.ok)
        generalize m.W = w11 at *
        clear ca0 ca1 ca2 ca3 cb0 cb1 cb2 cb3 H
        cases hb : lessB most ⟨l, d, o, f⟩ ⟨l', d', o', f'⟩
        · go_wp2
          go_roundw
          case rel => exact ⟨k + 1, a, by omega, by go_num, rfl, ⟨Lst.stay HL.it HZ'.it HZ.it hb⟩, Q⟩
          case measure => simp [natOf21]; omega
        · go_wp2
          go_roundw
          case rel => exact ⟨k + 1, k, by omega, by go_num, rfl, ⟨Lst.move HL.it HZ'.it HZ.it hb⟩, Q⟩
          case measure => simp [natOf21]; omega
    · obtain rfl : k = n := by omega
      go_wp2
      go_ret
      exact ⟨_, rfl, HL, HB⟩

/-- what Pick answers -/
def PickV (A : Nat → Addr) (most : Int) (zs : List LoadV) (k : Int) (ev : Value) : Prop :=
  (∃ a : Nat, k = a ∧ ev = .nilIface ∧ IsPick most zs a) ∨ (k = 0 ∧ NoneMay most zs ∧ Coded A ev (whyN most zs) ∧ whyN most zs ≠ 0)
theorem errN_ne {h : Int} (h0 : h ≠ 0) {most : Int} {z : LoadV} (e : hN most z = h) : errN h ≠ 0 := by
  have := hN_mem (most := most) (z := z)
  unfold errN
  split
  · decide
  split
  · decide
  split
  · decide
  split
  · decide
  omega
set_option maxHeartbeats 2000000 in
theorem pick_any (v : Value) (zs : List LoadV) (most : Int) (hv : LdsAt w v zs) (hs : Sents 61 codeVars A w) :
    Calls Tryd.prog 8 #[v, .int .i64 most] w fun e w' => ∃ k ev, e = .returned (.tuple #[.int .i64 k, ev]) ∧ Aside (PickV A most zs k ev) ∧ Aside (Keeps Nowhere w w') := by
  obtain ⟨W, hW⟩ : ∃ W, W = w.alloc (.cells #[.int .i64 most] 3) := ⟨_, rfl⟩
  have K0 : Aside (Keeps Nowhere w W) := ⟨by rw [hW]; exact (Keeps.refl _ _).alloc _⟩
  have B0 : Aside (Cells W w.heap.size 3 [.int .i64 most]) := ⟨by rw [hW]; exact Cells.new w _ _⟩
  have LE := Aside.mk (least_ok v zs most w.heap.size (hv.quiet K0.it) (by rw [B0.it.cell]; rfl))
  have HV := Aside.mk (hv.quiet K0.it)
  have HS := Aside.mk (hs.later K0.it.bel)
  clear hv hs
  go_enter Tryd.func8, Tryd.ntmps8
  go_upto_region 1 with fail
  rw [← hW]
  clear hW
  go_upto_region 2 with (first | (go_at_call 14; refine LE.it.mono ?_; rintro e w1 ⟨i, rfl, L1, K1⟩) | fail)
  have S1 := Aside.mk (HS.it.later K1.it.bel)
  have R1 := Aside.mk (HV.it.quiet K1.it)
  have B1 := Aside.mk (B0.it.later K1.it (fun x => x))
  have KW := Aside.mk (K0.it.trans K1.it)
  clear LE HS HV B0 K1 K0
  generalize w.heap.size = bm at *
  rcases L1.it with ⟨hz, rfl⟩ | ⟨a, rfl, ha, hx⟩
  · obtain rfl : zs = [] := List.eq_nil_of_length_eq_zero hz
    clear hz
    have E := Aside.mk (err_ok 4 S1.it)
    go_wp2_with (first | (go_at_call 17; refine E.it.mono ?_; rintro e w2 ⟨rfl, K2⟩) | fail)
    go_ret2
    exact ⟨_, _, rfl, ⟨.inr ⟨rfl, NoneMay.nil.1, errV_coded 4, by rw [NoneMay.nil.2]; decide⟩⟩, ⟨KW.it.trans K2.it⟩⟩
  · clear hx
    obtain ⟨pa, ca, rfl⟩ := R1.it.shape
    obtain ⟨l, d, o, f, b, s, hz, rfl, r0, r1, r2, r3, ho, hf⟩ := R1.it.read a ha
    have HZ := Aside.mk hz
    obtain ⟨n, hn⟩ : ∃ n, Aside (n = zs.length) := ⟨_, ⟨rfl⟩⟩
    rw [← hn.it] at ha ⊢
    have m0 : w1.cell? ⟨bm, 0, none⟩ = some (.int .i64 most) := by rw [B1.it.cell]; rfl
    have H := Aside.mk (KeW.call (w1 := w1) (fun W' _ => hinders_ok l d o f most W'))
    have E := Aside.mk (KeW.call (w1 := w1) (fun W' kk => err_ok (hN most ⟨l, d, o, f⟩) (S1.it.later kk.bel)))
    have c0 := fun n => KeW.cell r0 n
    have c1 := fun n => KeW.cell r1 n
    have c2 := fun n => KeW.cell r2 n
    have c3 := fun n => KeW.cell r3 n
    have c4 := fun n => KeW.cell m0 n
    have j2 : (a : Int) < n := by omega
    have j3 : (0 : Int) ≤ a := by omega
    clear r0 r1 r2 r3 m0 hz
    haveI : Nonempty (KeW w1) := ⟨⟨w1, Keeps.refl _ _⟩⟩
    go_upto_region 4 with fail
    all_goals first
      | (exfalso; omega)
      | skip
    refine wp_region_quietF (KeW.W (w1 := w1)) (by kernel_rfl) (by kernel_rfl) ⟨w1.drew, (Keeps.refl _ _).drew⟩ rfl ?_
    repeat (go_big_quiet_step (first | (go_at_call 16; exact H.it _) | (go_at_call 17; exact E.it _)))
    refine wpQuiet_nil ?_
    rintro _ ⟨m, rfl⟩
    have Q := Aside.mk (KW.it.trans m.ok)
    generalize m.W = w11 at *
    clear c0 c1 c2 c3 c4 H E
    obtain ⟨ev, he⟩ : ∃ ev, errV A (hN most ⟨l, d, o, f⟩) = ev := ⟨_, rfl⟩
    rw [he]
    rw [hn.it] at ha
    by_cases h0 : hN most ⟨l, d, o, f⟩ = 0
    · obtain rfl : ev = .nilIface := by rw [← he, h0]; rfl
      have P := Aside.mk (Lst.pick L1.it HZ.it h0)
      clear he h0
      go_wp2
      go_ret2
      exact ⟨_, _, rfl, ⟨.inl ⟨a, rfl, rfl, P.it⟩⟩, Q⟩
    · have N := Lst.none L1.it HZ.it h0
      have C : Coded A ev (whyN most zs) := by rw [N.2, ← he]; exact errV_coded _
      have P : Aside (PickV A most zs 0 ev) := ⟨.inr ⟨rfl, N.1, C, by rw [N.2]; exact errN_ne h0 rfl⟩⟩
      obtain ⟨q, rfl⟩ := C.pos (by rw [N.2]; exact errN_ne h0 rfl)
      clear he h0 N C
      go_wp2
      go_ret2
      exact ⟨_, _, rfl, P, Q⟩
end Go.Proofs.YtnhgpnkomkiniaaDoor
