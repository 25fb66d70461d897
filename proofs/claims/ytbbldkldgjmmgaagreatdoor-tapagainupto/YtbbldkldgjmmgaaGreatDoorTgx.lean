import Derived.Test.YtbbldkldgjmmgaaGreatDoorTTpZ
import Derived.Test.YtbbldkldgjmmgaaGreatDoorOpn
import Derived.Deep.MidRow
import Derived.Test.YtbbldkldgjmmgaaGreatDoorTFrameBk
/-
  law 26: the lines of frames as a text, and what is read of it (of whatever program, but for its names)
-/
namespace Go.Proofs.YtbbldkldgjmmgaaGreatDoor
open Go.RowKit Go.Maps

theorem tb_low {ns : List Int} (hb : AreBytes ns) : ∀ y ∈ tb ns, 32 ≤ y.toNat := fun y hy => by
  have := Tp.un_mem (P := fun x => 32 < x ∧ x < 127) (Tp.told_nb (b := nat ns) (fun c hc => by
    obtain ⟨z, hz, rfl⟩ := List.mem_map.1 hc
    have := hb z hz
    omega)) (fun x h => by omega) y hy
  omega
theorem dig_low {n : Nat} : ∀ y ∈ Lib.decDigits n, 32 ≤ y.toNat := fun y hy => by
  have := Wd.dd_digit n y hy
  omega
theorem tl_low {ws : List (List UInt8)} (h : ∀ x ∈ ws, ∀ y ∈ x, 32 ≤ y.toNat) : ∀ y ∈ Wd.tl ws, 32 ≤ y.toNat := fun y hy => by
  obtain ⟨x, hx, hy⟩ := List.mem_flatMap.1 hy
  rcases List.mem_cons.1 hy with rfl | hy
  · decide
  · exact h x hx y hy
theorem words_low (t v : Nat) (a b c d : Bool) (h s l : Nat) : ∀ x ∈ Wd.words t v a b c d h s l, ∀ y ∈ x, 32 ≤ y.toNat := by
  have dd : ∀ n, ∀ y ∈ Lib.decDigits n, 32 ≤ y.toNat := fun n y hy => dig_low y hy
  have lit : ∀ x ∈ ([[116, 121, 112, 101], [118, 101, 114, 115, 105, 111, 110], [102, 108, 97, 103, 115], [115, 116, 114, 101, 97, 109], [108, 101, 110, 103, 116, 104], [115, 121, 110], [97, 99, 107], [102, 105, 110], [114, 115, 116], [100, 97, 116, 97], [119, 105, 110, 100, 111, 119], [112, 105, 110, 103], [97, 119, 97, 121], []] : List (List UInt8)), ∀ y ∈ x, 32 ≤ y.toNat := by decide
  intro x hx
  unfold Wd.words at hx
  rcases List.mem_append.1 hx with hx | hx
  · unfold Wd.ty at hx
    split at hx
    · have ht : t = 0 ∨ t = 1 ∨ t = 2 ∨ t = 3 := by omega
      simp only [List.mem_singleton] at hx
      subst hx
      rcases ht with rfl | rfl | rfl | rfl <;> exact lit _ (by simp [Wd.wT])
    · simp only [List.mem_cons, List.not_mem_nil, or_false] at hx
      rcases hx with rfl | rfl
      · exact lit _ (by simp)
      · exact dd _
  rcases List.mem_append.1 hx with hx | hx
  · rcases Wd.ver_mem hx with rfl | rfl
    · exact lit _ (by simp)
    · exact dd _
  rcases List.mem_append.1 hx with hx | hx
  · rcases List.mem_append.1 hx with hx | hx
    · rcases Wd.fls_mem hx with ⟨rfl, _⟩ | ⟨rfl, _⟩ | ⟨rfl, _⟩ | ⟨rfl, _⟩ <;> exact lit _ (by simp)
    · rcases Wd.fur_mem hx with rfl | rfl
      · exact lit _ (by simp)
      · exact dd _
  · simp only [Wd.fin, List.mem_cons, List.not_mem_nil, or_false] at hx
    rcases hx with rfl | rfl | rfl | rfl
    · exact lit _ (by simp)
    · exact dd _
    · exact lit _ (by simp)
    · exact dd _
theorem txB_low {v t f s l : Int} (H : Fits v t f s l) : ∀ y ∈ txB v t f s l, 32 ≤ y.toNat := by
  rw [txB_words v t f s l H.v0 H.t0 H.f0]
  have h := words_low t.toNat v.toNat (bitB f 1) (bitB f 2) (bitB f 4) (bitB f 8) (f / 16 * 16).toNat s.toNat l.toNat
  cases hq : Wd.words t.toNat v.toNat (bitB f 1) (bitB f 2) (bitB f 4) (bitB f 8) (f / 16 * 16).toNat s.toNat l.toNat with
  | nil => intro y hy; simp [Wd.jn] at hy
  | cons x r =>
    rw [hq] at h
    intro y hy
    rcases List.mem_append.1 (show y ∈ x ++ Wd.tl r from hy) with hy | hy
    · exact h x (by simp) y hy
    · exact tl_low (fun z hz => h z (by simp [hz])) y hy
theorem line_low {v t f s l : Int} {ns : List Int} (H : Fits v t f s l) (hb : AreBytes ns) : ∀ y ∈ lineB v t f s l ns, 32 ≤ y.toNat := fun y hy => by
  unfold lineB at hy
  rcases List.mem_append.1 hy with hy | hy
  · exact txB_low H y hy
  · split at hy
    · rcases List.mem_cons.1 hy with rfl | hy
      · decide
      · exact tb_low hb y hy
    · cases hy

section
variable {most : Int}
theorem line_no10 {x : List Int × List Int} (g : FrGood most x) : (10 : UInt8) ∉ lineH x := fun h => by
  have := line_low (ns := x.2) (fits_of g.b1 g.ok.1) g.b2 10 h
  revert this
  decide
theorem linesB_append (a b : List (List Int × List Int)) : linesB (a ++ b) = linesB a ++ linesB b := by unfold linesB; rw [List.flatMap_append]
theorem linesB_cons (x : List Int × List Int) (r : List (List Int × List Int)) : linesB (x :: r) = lineH x ++ 10 :: linesB r := by
  unfold linesB
  rw [List.flatMap_cons, List.append_assoc]
  rfl
theorem spU_linesB : ∀ (fs : List (List Int × List Int)), (∀ x ∈ fs, FrGood most x) → Tp.spU 10 (linesB fs) = fs.map lineH ++ [[]]
  | [], _ => by decide
  | x :: r, h => by rw [linesB_cons, Tp.spU_cons (line_no10 (h x (by simp))), spU_linesB r (fun y hy => h y (by simp [hy]))]; rfl
/-- what each line writes -/
def bytesOf (fs : List (List Int × List Int)) : List (List Int) := fs.map (fun x => x.1 ++ x.2) ++ [[]]
theorem bytesOf_flat : ∀ (fs : List (List Int × List Int)), (bytesOf fs).flatten = flat fs
  | [] => rfl
  | x :: r => by
    have := bytesOf_flat r
    unfold bytesOf at this ⊢
    rw [List.map_cons, List.cons_append, List.flatten_cons, this]
    rfl
theorem wr_good {x : List Int × List Int} (g : FrGood most x) (hl : x.2.length ≤ 100000000) : Wr (lineH x) (x.1 ++ x.2) := by
  have F := fits_of g.b1 g.ok.1
  have := Wr.frame (dV x.1) (dT x.1) (dF x.1) (dS x.1) (dL x.1) x.2 F (by
    have h3 : x.2.length = szN x.1 := g.ok.2.2
    rw [h3]
    unfold szN szH
    split
    · exact Int.toNat_of_nonneg F.l0
    · rfl) g.b2 hl
  rwa [enc_dec x.1 g.ok.1 g.b1] at this
theorem wr_lines (fs : List (List Int × List Int)) (h : ∀ x ∈ fs, FrGood most x ∧ x.2.length ≤ 100000000) : ∀ (i : Nat) (x : List UInt8), (Tp.spU 10 (linesB fs))[i]? = some x → ∃ ms : List Int, (bytesOf fs)[i]? = some ms ∧ Wr x ms := by
  intro i x hx
  rw [spU_linesB fs (fun y hy => (h y hy).1)] at hx
  unfold bytesOf
  rcases Nat.lt_or_ge i fs.length with hi | hi
  · rw [List.getElem?_append_left (by simpa using hi), List.getElem?_map] at hx ⊢
    rw [List.getElem?_eq_getElem hi] at hx ⊢
    simp only [Option.map_some, Option.some.injEq] at hx ⊢
    subst hx
    exact ⟨_, rfl, wr_good (h _ (List.getElem_mem hi)).1 (h _ (List.getElem_mem hi)).2⟩
  · rw [List.getElem?_append_right (by simpa using hi), List.length_map] at hx ⊢
    cases hq : i - fs.length with
    | zero =>
      rw [hq] at hx
      simp only [List.getElem?_cons_zero, Option.some.injEq] at hx ⊢
      subst hx
      exact ⟨_, rfl, Wr.none⟩
    | succ n => rw [hq] at hx; simp at hx
theorem bytesOf_len (fs : List (List Int × List Int)) (h : ∀ x ∈ fs, FrGood most x) : (bytesOf fs).length = (Tp.spU 10 (linesB fs)).length := by
  rw [spU_linesB fs h]; simp [bytesOf]
/-- what is read of a part of good bytes -/
theorem prs_part {fs : List (List Int × List Int)} (h : ∀ x ∈ fs, FrGood most x) (a b : List Int) (e : flat fs = a ++ b) : (prs most a).dead = none := by
  have hw : prs most (flat fs) = ⟨fs, [], none⟩ := by
    have := parse_flat (ck := ckH most) (sz := szN) fs [] (fun x hx => (h x hx).ok)
    rw [List.append_nil] at this
    show parse (ckH most) szN (flat fs) = _
    rw [this, parse_short (by decide)]
    simp
  cases hd : (prs most a).dead with
  | none => rfl
  | some q =>
    have := parse_app_dead (ck := ckH most) (sz := szN) a b q hd
    rw [← e] at this
    have h1 : (prs most (flat fs)).dead = some q := by show (parse (ckH most) szN (flat fs)).dead = _; rw [this]; exact hd
    rw [hw] at h1
    cases h1
theorem prs_whole {fs : List (List Int × List Int)} (h : ∀ x ∈ fs, FrGood most x) : prs most (flat fs) = ⟨fs, [], none⟩ := by
  have := parse_flat (ck := ckH most) (sz := szN) fs [] (fun x hx => (h x hx).ok)
  rw [List.append_nil] at this
  show parse (ckH most) szN (flat fs) = _
  rw [this, parse_short (by decide)]
  simp
end
end Go.Proofs.YtbbldkldgjmmgaaGreatDoor

/-
  law 26: copied; a tap by owners; Err
-/
namespace Go.Proofs.YtbbldkldgjmmgaaGreatDoor
open Go.RowKit Go.Maps
attribute [-go_sem] run_index_string Builtin.append_

section
variable {A : Nat → Addr} {w0 w w' : World} {own own' : Nat → Nat} {p dp N : Nat} {most : Int} {hs : List Int}
theorem TapO.ext (T : TapO A w0 own w p dp most hs N) (he : ∀ k, k < w.heap.size → own' k = own k) : TapO A w0 own' w p dp most hs N := by
  have hlt : p < w.heap.size := by obtain ⟨_, _, _, _, _, c, _⟩ := T.c; exact c.lt
  obtain ⟨⟨g, d, hg⟩, l⟩ := T.d
  exact ⟨T.g.ext he, ⟨⟨g, d.ext own' he, hg⟩, l⟩, T.c, (he p hlt).trans T.o⟩
theorem tapErr_at (T : TapO A w0 own w p dp most hs N) : Calls Tryz.prog 10 #[ptr p] w fun e w' => e = .returned .nilIface ∧ Aside (Keeps Nowhere w w') := by
  obtain ⟨n0, n1, n2, n3, pl, hc, hcn⟩ := T.c
  have c0 : w.cell? ⟨p, 0, none⟩ = some (dPtr dp) := by rw [hc.cell]; rfl
  have E := Aside.mk (err_s (A := A) (j := 2) (dead := none) T.d)
  clear T hc hcn
  go_enter Tryz.func10, Tryz.ntmps10
  go_wp2_with (first | (go_at_call 24; refine E.it.mono ?_; rintro e w1 ⟨ev, rfl, V, K⟩; have hev : ev = .nilIface := V.it; subst hev) | fail)
  go_ret
  exact ⟨rfl, K⟩
end
theorem tapNew_bad {A : Nat → Addr} {most : Int} (w : World) (hB : Base A w) (h : most < 1 ∨ 65536 < most) : Calls Tryz.prog 12 #[.int .i64 most] w fun e w' => ∃ a, e = .returned (.tuple #[.pointer none, .iface 204 (.pointer (some a))]) ∧ Aside (Below w.heap.size w w') := by
  have NB := Aside.mk (new_bad (A := A) most w hB.s h)
  go_enter Tryz.func12, Tryz.ntmps12
  go_wp2_with (first | (go_at_call 29; refine NB.it.mono ?_; rintro e w1 ⟨rfl, n, rfl⟩) | fail)
  go_ret2
  exact ⟨_, rfl, ⟨(drewN_keeps _ _).bel⟩⟩
theorem there6 {e : TypeId} {c0 c1 c2 c3 c4 c5 : Value} {g : Nat} {W : World} (h : Cells W g e [c0, c1, c2, c3, c4, c5]) : W.there g 0 6 := by
  intro j hj
  rw [Nat.zero_add]
  refine ⟨?_, h.frozen j⟩
  rw [h.cell, List.getElem?_eq_getElem (by show j < 6; exact hj)]
  rfl
set_option maxRecDepth 20000 in
set_option maxHeartbeats 2000000 in
theorem copied_at (w : World) {v t f s l : Int} {dq : Option Addr} {n dc : Nat} {ns : List Int} (hr : Rd w (.slice dq n dc) ns) (hN : ns.length = n) (hn : n ≤ 140737488355328) :
    Calls Tryz.prog 6 #[frm v t f s l (.slice dq n dc)] w fun e w' => ∃ q c, e = .returned (frm v t f s l (.slice q n c)) ∧ Aside (Rd w' (.slice q n c) ns) ∧ Aside (Below w.heap.size w w') := by
  go_enter Tryz.func6, Tryz.ntmps6
  go_upto_region 1 with fail
  have C0 : Cells (w.alloc (fbox v t f s l (.slice dq n dc))) w.heap.size 34 [.int .u8 v, .int .u8 t, .int .u16 f, .int .u32 s, .int .u32 l, .slice dq n dc] := Cells.new w _ _
  obtain ⟨zb, hzb⟩ : ∃ zb : Obj, zb = .cells #[.int .u8 0, .int .u8 0, .int .u16 0, .int .u32 0, .int .u32 0, .slice none 0 0] 34 := ⟨_, rfl⟩
  rw [← hzb]
  obtain ⟨w1, hw1⟩ : ∃ w1, (w.alloc (fbox v t f s l (.slice dq n dc))).alloc zb = w1 := ⟨_, rfl⟩
  have K1 : Aside (Keeps Nowhere w w1) := ⟨by rw [← hw1]; exact ((Keeps.refl _ _).alloc _).alloc _⟩
  have Z1 : w1.heap.size = w.heap.size + 2 := by rw [← hw1]; simp
  have C1 : Cells w1 w.heap.size 34 [.int .u8 v, .int .u8 t, .int .u16 f, .int .u32 s, .int .u32 l, .slice dq n dc] := by
    rw [← hw1]; exact C0.later ((Keeps.refl Nowhere _).alloc _) (fun x => x)
  have CZ : Cells w1 (w.heap.size + 1) 34 [.int .u8 0, .int .u8 0, .int .u16 0, .int .u32 0, .int .u32 0, .slice none 0 0] := by
    have := Cells.new (w.alloc (fbox v t f s l (.slice dq n dc))) 34 [.int .u8 0, .int .u8 0, .int .u16 0, .int .u32 0, .int .u32 0, .slice none 0 0]
    rw [← hw1, hzb]
    simpa using this
  rw [hw1]
  clear hw1 hzb C0
  have h5 : w1.cell? ⟨w.heap.size, 5, none⟩ = some (.slice dq n dc) := by rw [C1.cell]; rfl
  obtain ⟨fb, hfb⟩ : ∃ fb, w.heap.size = fb := ⟨_, rfl⟩
  obtain ⟨q, c, w3, run3, N3⟩ := copyRun (hr.later K1.it.bel) hN hn
  rw [Z1] at run3
  rw [hfb] at C1 CZ h5 run3 ⊢
  have Z3 : Aside (Cells w3 (fb + 1) 34 [.int .u8 0, .int .u8 0, .int .u16 0, .int .u32 0, .int .u32 0, .slice none 0 0]) := ⟨CZ.later N3.it.k (fun x => x)⟩
  have C3 : Aside (Cells w3 fb 34 [.int .u8 v, .int .u8 t, .int .u16 f, .int .u32 s, .int .u32 l, .slice dq n dc]) := ⟨C1.later N3.it.k (fun x => x)⟩
  have hzz := C3.it.frozen 5
  have h35 : w3.cell? ⟨fb, 5, none⟩ = some (.slice dq n dc) := by rw [C3.it.cell]; rfl
  clear C1
  go_upto_region 2 with fail
  have C4 := C3.it.setCell 5 (.slice q n c)
  have K4 : Aside (Keeps (fun k => k = fb) w3 (w3.setCell ⟨fb, 5, none⟩ (.slice q n c))) := ⟨(Keeps.refl _ _).setCell _ _ (fun _ => rfl)⟩
  have KB : Aside (Keeps Nowhere w (w3.setCell ⟨fb, 5, none⟩ (.slice q n c))) := ⟨(K1.it.trans N3.it.k).setCell _ _ (fun h => by simp only at h; omega)⟩
  obtain ⟨w4, hw4⟩ : ∃ w4, w3.setCell ⟨fb, 5, none⟩ (.slice q n c) = w4 := ⟨_, rfl⟩
  rw [hw4] at C4 K4 KB ⊢
  have Z4 := Aside.mk (Z3.it.later K4.it (by omega))
  clear hw4 h5 h35 hzz
  have d0 : w4.cell? ⟨fb, 0, none⟩ = some (.int .u8 v) := by rw [C4.cell]; rfl
  have d1 : w4.cell? ⟨fb, 1, none⟩ = some (.int .u8 t) := by rw [C4.cell]; rfl
  have d2 : w4.cell? ⟨fb, 2, none⟩ = some (.int .u16 f) := by rw [C4.cell]; rfl
  have d3 : w4.cell? ⟨fb, 3, none⟩ = some (.int .u32 s) := by rw [C4.cell]; rfl
  have d4 : w4.cell? ⟨fb, 4, none⟩ = some (.int .u32 l) := by rw [C4.cell]; rfl
  have d5 : w4.cell? ⟨fb, 5, none⟩ = some (.slice q n c) := by rw [C4.cell]; rfl
  have TH := Aside.mk (there6 Z4.it)
  have TI : Aside ((Tryz.prog.info? 34).map (·.size) = some (#[.int .u8 v, .int .u8 t, .int .u16 f, .int .u32 s, .int .u32 l, .slice q n c] : Array Value).size) := ⟨by
    have : (Tryz.prog.info? 34).map (·.size) = some 6 := by kernel_rfl
    rw [this]; rfl⟩
  have TO : Aside ((#[.int .u8 v, .int .u8 t, .int .u16 f, .int .u32 s, .int .u32 l, .slice q n c] : Array Value).all (·.oneCell') = true) := ⟨by simp [Value.oneCell']⟩
  have D5 : Aside (Cells (w4.setCells (fb + 1) 0 (#[.int .u8 v, .int .u8 t, .int .u16 f, .int .u32 s, .int .u32 l, .slice q n c] : Array Value).toList) (fb + 1) 34 [.int .u8 v, .int .u8 t, .int .u16 f, .int .u32 s, .int .u32 l, .slice q n c]) := ⟨(((((Z4.it.setCell 0 (.int .u8 v)).setCell 1 (.int .u8 t)).setCell 2 (.int .u16 f)).setCell 3 (.int .u32 s)).setCell 4 (.int .u32 l)).setCell 5 (.slice q n c)⟩
  have K5 : Aside (Keeps (fun k => k = fb + 1) w4 (w4.setCells (fb + 1) 0 (#[.int .u8 v, .int .u8 t, .int .u16 f, .int .u32 s, .int .u32 l, .slice q n c] : Array Value).toList)) := ⟨((((((Keeps.refl (fun k => k = fb + 1) w4).setCell ⟨fb + 1, 0, none⟩ (.int .u8 v) (fun _ => rfl)).setCell ⟨fb + 1, 1, none⟩ (.int .u8 t) (fun _ => rfl)).setCell ⟨fb + 1, 2, none⟩ (.int .u16 f) (fun _ => rfl)).setCell ⟨fb + 1, 3, none⟩ (.int .u32 s) (fun _ => rfl)).setCell ⟨fb + 1, 4, none⟩ (.int .u32 l) (fun _ => rfl)).setCell ⟨fb + 1, 5, none⟩ (.slice q n c) (fun _ => rfl)⟩
  go_wp2_with (first | (refine wpList_store_mid rfl 34 _ _ rfl (fb + 1) 0 #[.int .u8 v, .int .u8 t, .int .u16 f, .int .u32 s, .int .u32 l, .slice q n c] rfl rfl TH.it TI.it TO.it ?_
                        dsimp only [Act.put]
                        clear d0 d1 d2 d3 d4 d5
                        generalize (w4.setCells (fb + 1) 0 (#[.int .u8 v, .int .u8 t, .int .u16 f, .int .u32 s, .int .u32 l, .slice q n c] : Array Value).toList) = w5 at D5 K5 ⊢
                        have d0 : w5.cell? ⟨fb + 1, 0, none⟩ = some (.int .u8 v) := by rw [D5.it.cell]; rfl
                        have d1 : w5.cell? ⟨fb + 1, 1, none⟩ = some (.int .u8 t) := by rw [D5.it.cell]; rfl
                        have d2 : w5.cell? ⟨fb + 1, 2, none⟩ = some (.int .u16 f) := by rw [D5.it.cell]; rfl
                        have d3 : w5.cell? ⟨fb + 1, 3, none⟩ = some (.int .u32 s) := by rw [D5.it.cell]; rfl
                        have d4 : w5.cell? ⟨fb + 1, 4, none⟩ = some (.int .u32 l) := by rw [D5.it.cell]; rfl
                        have d5 : w5.cell? ⟨fb + 1, 5, none⟩ = some (.slice q n c) := by rw [D5.it.cell]; rfl) | fail)
  refine bodyPost_ret (v := frm v t f s l (.slice q n c)) ?_ rfl ?_
  · simp [results, Tryz.f6, go_sem, d0, d1, d2, d3, d4, d5]
  have R4 : OwnB w1.heap.size w4 (.slice q n c) ns := owns_later N3.it.row K4.it (fun b hb e => by have := owns_base N3.it.row b hb; omega)
  have R5 : OwnB w1.heap.size w5 (.slice q n c) ns := owns_later R4 K5.it (fun b hb e => by have := owns_base R4 b hb; omega)
  have hfw : w.heap.size = fb := hfb
  exact ⟨q, c, rfl, ⟨R5.rd⟩, ⟨(KB.it.next K5.it (fun k hk hlt => by have hk' : k = fb + 1 := hk; omega)).bel⟩⟩
end Go.Proofs.YtbbldkldgjmmgaaGreatDoor

/-
  law 26: heard
-/
namespace Go.Proofs.YtbbldkldgjmmgaaGreatDoor
open Go.RowKit Go.Maps
attribute [-go_sem] run_index_string Builtin.append_

theorem heard_bad {A : Nat → Addr} {most : Int} (w : World) (hB : Base A w) (h : most < 1 ∨ 65536 < most) (pv : Value) : Calls Tryz.prog 9 #[.int .i64 most, pv] w fun e w' => e = .returned (.tuple #[.string (str []), .pointer none, .bool false]) ∧ Aside (Below w.heap.size w w') := by
  have NB := Aside.mk (tapNew_bad (A := A) w hB h)
  clear hB h
  go_enter Tryz.func9, Tryz.ntmps9
  go_wp2_with (first | (go_at_call 12; refine NB.it.mono ?_; rintro e w1 ⟨a, rfl, B1⟩) | fail)
  go_ret3
  exact ⟨rfl, B1⟩
/-- what is heard of the first k pieces -/
abbrev part (rs : List (List Int)) (k : Nat) : List Int := (rs.take k).flatten
/-- the world of the loop -/
structure Hd (A : Nat → Addr) (w : World) (most : Int) (rs : List (List Int)) (pv : Value) (p dp : Nat) (k : Nat) (wr : World) : Prop where
  x : ∃ own N, TapO A w own wr p dp most (prs most (part rs k)).rest N ∧ N ≤ (flat (prs most (part rs k)).fs).length ∧ RdL own 0 wr pv rs
theorem part_succ {rs : List (List Int)} {k : Nat} {r : List Int} (h : rs[k]? = some r) : part rs (k + 1) = part rs k ++ r := by
  unfold part
  obtain ⟨hk, e⟩ := List.getElem?_eq_some_iff.1 h
  rw [List.take_add_one, h]
  simp
theorem part_rest (rs : List (List Int)) (k : Nat) : rs.flatten = part rs k ++ (rs.drop k).flatten := by
  unfold part
  rw [← List.flatten_append, List.take_append_drop]
/-- one piece more -/
theorem hd_step {A : Nat → Addr} {w : World} {most : Int} {rs : List (List Int)} {pv : Value} {p dp k : Nat} {wr : World} {fs : List (List Int × List Int)} (hW : Words w) (H : Hd A w most rs pv p dp k wr) (hg : ∀ x ∈ fs, FrGood most x) (hf : rs.flatten = flat fs) (hl : (flat fs).length ≤ 1073741824) {r : List Int} (hr : rs[k]? = some r) (hb : AreBytes r)
    {W : World} {q : Option Addr} {n c : Nat} (N3 : Ny wr W (.slice q n c) r) :
    Calls Tryz.prog 13 #[ptr p, .slice q n c] W fun e w' => ∃ tx, e = .returned (.string (str tx)) ∧ Aside (linesB (prs most (part rs (k + 1))).fs = linesB (prs most (part rs k)).fs ++ tx) ∧ Aside (Hd A w most rs pv p dp (k + 1) w') := by
  obtain ⟨own, N, T, hN, P⟩ := H.x
  obtain ⟨own2, ho2⟩ : ∃ own2, give own wr.heap.size 0 = own2 := ⟨_, rfl⟩
  have old : ∀ j, j < wr.heap.size → own2 j = own j := fun j hj => by rw [← ho2]; exact give_old hj
  have T2 : TapO A w own2 W p dp most (prs most (part rs k)).rest N := (T.ext old).quiet N3.k
  have hd0 : (prs most (part rs k)).dead = none := prs_part hg _ _ (by rw [← hf]; exact part_rest rs k)
  have hd1 : (prs most (part rs (k + 1))).dead = none := prs_part hg _ _ (by rw [← hf]; exact part_rest rs (k + 1))
  have ap := parse_app (ck := ckH most) (sz := szN) (part rs k) r hd0
  rw [← part_succ hr] at ap
  have hd2 : (prs most ((prs most (part rs k)).rest ++ r)).dead = none := by
    have : (prs most (part rs (k + 1))).dead = (prs most ((prs most (part rs k)).rest ++ r)).dead := congrArg (·.dead) ap
    rw [← this]; exact hd1
  have len1 : (part rs (k + 1)).length ≤ 1073741824 := by
    have := congrArg List.length (part_rest rs (k + 1))
    rw [hf, List.length_append] at this
    omega
  have lr : (prs most (part rs k)).rest.length + r.length ≤ (part rs (k + 1)).length := by
    have h1 := (parse_rest (ck := ckH most) (sz := szN) (part rs k) hd0).2
    have h2 := congrArg List.length h1
    rw [List.length_append] at h2
    rw [part_succ hr, List.length_append]
    show (parse (ckH most) szN (part rs k)).rest.length + _ ≤ _
    omega
  have lf : (flat (prs most (part rs k)).fs).length + (prs most (part rs k)).rest.length = (part rs k).length := by
    have h1 := (parse_rest (ck := ckH most) (sz := szN) (part rs k) hd0).2
    have h2 := congrArg List.length h1
    rw [List.length_append] at h2
    exact h2.symm
  have lp : (part rs k).length ≤ (part rs (k + 1)).length := by rw [part_succ hr, List.length_append]; omega
  have RD : RdS (fun j => own2 j = 1) W (.slice q n c) r := by
    have o : W.ownsRow wr.heap.size 5 1 (.slice q n c) (bv r).length (bv r) := by rw [bv_length]; exact N3.row
    obtain ⟨r1, r2⟩ := owns_reads o
    refine ⟨r1.mono (fun j e _ => ?_), r2⟩
    rcases Nat.lt_or_ge j wr.heap.size with h | h
    · exact h
    · have e' : own2 j = 1 := e
      rw [← ho2, give_new h] at e'
      cases e'
  refine (tapFeed_at (A := A) hW T2 RD hb (by omega) (by omega) hd2).mono ?_
  rintro e w' ⟨rfl, X⟩
  obtain ⟨own', N', T', hN', he, K⟩ := X.it
  refine ⟨_, rfl, ⟨?_⟩, ⟨⟨own', N', ?_, ?_, ?_⟩⟩⟩
  · have : (prs most (part rs (k + 1))).fs = (prs most (part rs k)).fs ++ (prs most ((prs most (part rs k)).rest ++ r)).fs := congrArg (·.fs) ap
    rw [this, linesB_append]
  · have : (prs most (part rs (k + 1))).rest = (prs most ((prs most (part rs k)).rest ++ r)).rest := congrArg (·.rest) ap
    rw [this]; exact T'
  · have : (prs most (part rs (k + 1))).fs = (prs most (part rs k)).fs ++ (prs most ((prs most (part rs k)).rest ++ r)).fs := congrArg (·.fs) ap
    rw [this, flat_append, List.length_append]
    omega
  · have P1 : RdL own2 0 wr pv rs := P.sn (I := fun _ => False) ⟨old, Keeps.refl _ _⟩ (fun x => x)
    have P2 := P1.quiet N3.k
    exact P2.sn (I := fun j => j = 1 ∨ j = 3) ⟨he, K⟩ (by decide)
theorem part_le {most : Int} {rs : List (List Int)} {fs : List (List Int × List Int)} (hg : ∀ x ∈ fs, FrGood most x) (hf : rs.flatten = flat fs) (k : Nat) : (linesB (prs most (part rs k)).fs).length ≤ (linesB fs).length := by
  have hd0 : (prs most (part rs k)).dead = none := prs_part hg _ _ (by rw [← hf]; exact part_rest rs k)
  have ap := parse_app (ck := ckH most) (sz := szN) (part rs k) (rs.drop k).flatten hd0
  rw [← part_rest rs k, hf] at ap
  have h1 : (prs most (flat fs)).fs = (prs most (part rs k)).fs ++ (prs most ((prs most (part rs k)).rest ++ (rs.drop k).flatten)).fs := congrArg (·.fs) ap
  rw [prs_whole hg] at h1
  have h2 : linesB fs = _ := congrArg linesB h1
  rw [linesB_append] at h2
  rw [h2, List.length_append]
  omega
theorem part_nil (most : Int) (rs : List (List Int)) : linesB (prs most (part rs 0)).fs = [] := by
  have : prs most (part rs 0) = ⟨[], [], none⟩ := parse_short (by simp [part])
  rw [this]
  rfl
set_option maxRecDepth 20000 in
set_option maxHeartbeats 2000000 in
theorem heard_at {A : Nat → Addr} {most : Int} (h1 : 1 ≤ most) (h2 : most ≤ 65536) (w : World) (hB : Base A w) (hW : Words w) {pq : Option Addr} {n pc : Nat} {rs : List (List Int)} (P : RdL (fun _ => 0) 0 w (.slice pq n pc) rs) (hn : rs.length = n) (hn2 : n ≤ 1073741824)
    {fs : List (List Int × List Int)} (hg : ∀ x ∈ fs, FrGood most x) (hf : rs.flatten = flat fs) (hl : (flat fs).length ≤ 1073741824) (hx : (linesB fs).length ≤ 1099511627776) (hb : ∀ r ∈ rs, AreBytes r) :
    Calls Tryz.prog 9 #[.int .i64 most, .slice pq n pc] w fun e w' => ∃ p, e = .returned (.tuple #[.string (str (linesB fs)), ptr p, .bool true]) ∧ Aside (∃ own dp N, TapO A w own w' p dp most [] N) := by
  have NW := Aside.mk (tapNew_at (A := A) (w0 := w) (w := w) (own := fun _ => 0) ⟨hB, ⟨fun _ _ => rfl, Below.refl _ _, Nat.le_refl _⟩⟩ h1 h2)
  have HW := Aside.mk hW
  have HP := Aside.mk P
  have HG := Aside.mk hg
  have HF := Aside.mk hf
  have HL := Aside.mk hl
  have HX := Aside.mk hx
  have HBB := Aside.mk hb
  have HN := Aside.mk hn
  clear hB hW P hg hf hl hx hb hn h1 h2
  go_enter Tryz.func9, Tryz.ntmps9
  go_upto_region 6 with (first | (go_at_call 12; refine NW.it.mono ?_; rintro e w1 ⟨p, dp, own1, rfl, X1⟩) | fail)
  have P1 : Aside (Hd A w most rs (.slice pq n pc) p dp 0 w1) := ⟨⟨own1, 0, by
    have e : prs most (part rs 0) = ⟨[], [], none⟩ := parse_short (by simp [part])
    rw [e]; exact X1.it.1, Nat.zero_le _, HP.it.sn (I := fun _ => False) ⟨X1.it.2.1, X1.it.2.2.any⟩ (fun x => x)⟩⟩
  clear NW HP X1
  go_loopw [9, 10] (fun sv iv wr => ∃ k : Nat, sv = .string (str (linesB (prs most (part rs k)).fs)) ∧ iv = .int .i64 k ∧ k ≤ n ∧ Aside (Hd A w most rs (.slice pq n pc) p dp k wr)) (fun _ iv _ => n - (intOf iv).toNat)
  case atStart => exact ⟨0, by rw [part_nil], rfl, Nat.zero_le _, P1⟩
  case round =>
    obtain ⟨k, rfl, rfl, hk, H⟩ := hrel
    clear P1
    rcases Nat.eq_or_lt_of_le hk with e | hlt
    · subst e
      have ew : part rs k = flat fs := by
        have := part_rest rs k
        rw [HF.it, List.drop_of_length_le (by rw [HN.it]; exact Nat.le_refl _)] at this
        simpa using this.symm
      have pw : prs most (part rs k) = ⟨fs, [], none⟩ := by rw [ew]; exact prs_whole HG.it
      have HE : Aside (∃ own dp N, TapO A w own wr p dp most [] N) := ⟨by
        obtain ⟨own, N, T, _, _⟩ := H.it.x
        rw [pw] at T
        exact ⟨own, dp, N, T⟩⟩
      rw [pw]
      clear H pw ew
      go_wp2_with fail
      go_ret3
      exact ⟨p, rfl, HE⟩
    · obtain ⟨r, hr⟩ : ∃ r, rs[k]? = some r := ⟨_, List.getElem?_eq_getElem (by rw [HN.it]; exact hlt)⟩
      obtain ⟨q, c, n', hv, cc, R⟩ : ∃ q c n', r.length = n' ∧ Aside (∃ g o, pq = some ⟨g, o, none⟩ ∧ wr.cell? ⟨g, o + k, none⟩ = some (.slice q n' c)) ∧ Aside (Rd wr (.slice q n' c) r) := by
        obtain ⟨own, N, T, _, P⟩ := H.it.x
        obtain ⟨a, c, e, _, h⟩ := P.at
        injection e with e1 e2 e3
        obtain ⟨g, o, v, ea, hc, hro⟩ := h k r hr
        obtain ⟨q, c', rfl⟩ := hro.shape
        exact ⟨q, c', r.length, rfl, ⟨g, o, by rw [e1]; exact ea, hc⟩, ⟨hro.1⟩⟩
      obtain ⟨g, o, rfl, c0⟩ := cc.it
      have hbr := Aside.mk (HBB.it r (List.mem_of_getElem? hr))
      have hrl : n' ≤ 1073741824 := by
        have h1 := congrArg List.length (part_rest rs (k + 1))
        rw [HF.it, List.length_append, part_succ hr, List.length_append, hv] at h1
        have := HL.it
        omega
      obtain ⟨dq, dcc, w3, run3, N3⟩ := copyRun R.it hv (by omega)
      have HR := Aside.mk hr
      have FE := Aside.mk (hd_step HW.it H.it HG.it HF.it HL.it hr hbr.it N3.it)
      have PL := Aside.mk (part_le HG.it HF.it (k + 1))
      clear hr hv R cc hrl N3
      have c1 : (wr.alloc (.cells #[] 5)).cell? ⟨g, o + k, none⟩ = some (.slice q n' c) := alloc_cell _ c0
      have i1 : (k : Int) < n := by omega
      have i2 : (k : Int) ≤ 1073741824 := by omega
      go_wp2_with (first | (go_at_call 13; refine FE.it.mono ?_; rintro e w4 ⟨tx, rfl, EL, H4⟩; have AD := add_str (linesB (prs most (part rs k)).fs) tx (by have h1 := congrArg List.length EL.it; rw [List.length_append] at h1; have := PL.it; have := HX.it; omega)) | fail)
      go_roundw
      case rel => exact ⟨k + 1, by rw [EL.it], by go_num, hlt, H4⟩
      case measure => simp [intOf]; omega
end Go.Proofs.YtbbldkldgjmmgaaGreatDoor

/-
  law 26: TapAgain
-/
namespace Go.Proofs.YtbbldkldgjmmgaaGreatDoor
open Go.RowKit Go.Maps
attribute [-go_sem] run_index_string Builtin.append_

/-- the frames of which the text is made -/
structure Tx (w : World) (most : Int) (k sum : Nat) (fs : List (List Int × List Int)) (wr : World) : Prop where
  bel : Below w.heap.size w wr
  good : ∀ x ∈ fs, FrGood most x ∧ x.2.length ≤ 1048576
  len : (flat fs).length ≤ 12 * k + sum
  text : (linesB fs).length ≤ 1003 * k + 3 * sum
theorem Tx.more {w wr w' : World} {most : Int} {k sum n : Nat} {fs : List (List Int × List Int)} (h : Tx w most k sum fs wr) (hb : Below wr.heap.size wr w') {v t f s l : Int} {ns : List Int} (F : Fits v t f s l) (hc : chk v t f s l most = 0) (hz : (ns.length : Int) = szH t l) (hbs : AreBytes ns) (hn : ns.length = n) (hn2 : n ≤ 1048576) :
    Tx w most (k + 1) (sum + n) (fs ++ [(enc v t f s l, ns)]) w' ∧ linesB (fs ++ [(enc v t f s l, ns)]) = linesB fs ++ (lineB v t f s l ns ++ [10]) := by
  have e : linesB (fs ++ [(enc v t f s l, ns)]) = linesB fs ++ (lineB v t f s l ns ++ [10]) := by
    rw [linesB_append]
    congr 1
    obtain ⟨e1, e2, e3, e4, e5⟩ := dec_enc v t f s l
    unfold linesB lineH
    rw [List.flatMap_cons, List.flatMap_nil, List.append_nil, e1, e2, e3, e4, e5]
  have ll := line_len (ns := ns) F
  obtain ⟨e1, e2, e3, e4, e5⟩ := dec_enc v t f s l
  refine ⟨⟨h.bel.trans (hb.mono h.bel.size), ?_, ?_, ?_⟩, e⟩
  · intro x hx
    rcases List.mem_append.1 hx with hx | hx
    · exact h.good x hx
    · rw [List.mem_singleton] at hx
      subst hx
      refine ⟨⟨⟨enc_length _ _ _ _ _, ?_, ?_⟩, ?_, hbs⟩, by show ns.length ≤ _; omega⟩
      · show ckH most (enc v t f s l) = true
        unfold ckH chkH
        rw [e1, e2, e3, e4, e5]
        exact decide_eq_true hc
      · show ns.length = szN (enc v t f s l)
        unfold szN
        rw [e2, e5]
        omega
      · intro m hm
        have := F.v0; have := F.v1; have := F.t0; have := F.t1; have := F.f0; have := F.f1; have := F.s0; have := F.s1; have := F.l0; have := F.l1
        simp only [enc, be2, be4, List.mem_append, List.mem_cons, List.not_mem_nil, or_false] at hm
        omega
  · have := h.len
    rw [flat_append, List.length_append]
    show _ + (enc v t f s l ++ ns ++ []).length ≤ _
    rw [List.append_nil, List.length_append, enc_length]
    omega
  · have := h.text
    rw [e, List.length_append, List.length_append]
    show _ + (_ + 1) ≤ _
    omega
theorem Tx.less {w wr w' : World} {most : Int} {k sum : Nat} (n : Nat) {fs : List (List Int × List Int)} (h : Tx w most k sum fs wr) (hb : Below wr.heap.size wr w') : Tx w most (k + 1) (sum + n) fs w' :=
  ⟨h.bel.trans (hb.mono h.bel.size), h.good, by have := h.len; omega, by have := h.text; omega⟩
abbrev sumL (zs : List FrV) (k : Nat) : Nat := ((zs.take k).map (fun z => z.ns.length)).sum
theorem sumL_succ {zs : List FrV} {k : Nat} {z : FrV} (h : zs[k]? = some z) : sumL zs (k + 1) = sumL zs k + z.ns.length := by
  unfold sumL
  rw [List.take_add_one, h]
  simp
theorem sumL_le (zs : List FrV) (k : Nat) : sumL zs k ≤ (zs.map (fun z => z.ns.length)).sum := by
  have h2 : (zs.map (fun z => z.ns.length)).sum = ((zs.take k).map (fun z => z.ns.length)).sum + ((zs.drop k).map (fun z => z.ns.length)).sum := by
    rw [← List.sum_append, ← List.map_append, List.take_append_drop]
  unfold sumL
  omega
theorem flat_bytes {most : Int} : ∀ (fs : List (List Int × List Int)), (∀ x ∈ fs, FrGood most x) → AreBytes (flat fs)
  | [], _ => by intro n hn; rw [flat] at hn; cases hn
  | x :: fs, h => by
    have g := h x (by simp)
    have ih := flat_bytes fs (fun y hy => h y (by simp [hy]))
    intro n hn
    rw [flat] at hn
    rcases List.mem_append.1 hn with hn | hn
    · rcases List.mem_append.1 hn with hn | hn
      · exact g.b1 n hn
      · exact g.b2 n hn
    · exact ih n hn
section
variable {own : Nat → Nat} {W w w' : World} {pv v : Value} {rs : List (List Int)} {r F : List Int} {k : Nat}
/-- pieces = append(pieces, r) -/
theorem appP (h : RowL own 1 2 W pv rs) (hv : RdO own 2 W v r) (hk : rs.length = k) (hb : k ≤ 4398046511103) : ∃ (a : Option Addr) (c : Nat) (w' : World), (∀ ty, (Builtin.append_ #[39, 39] ty #[pv, .slice (some ⟨W.heap.size, 0, none⟩) 1 1]).run Tryz.prog (W.alloc (.cells #[v] 32)) = .ok (.slice a (k + 1) c) w') ∧ Aside (RowL (give own W.heap.size 1) 1 2 w' (.slice a (k + 1) c) (rs ++ [r]) ∧ Sn (fun k => k = 1) own W (give own W.heap.size 1) w') := by
  obtain ⟨vs, h1, h2, h3, h4⟩ := h
  have hv1 : v.oneCell' = true := by obtain ⟨p, c, e⟩ := hv.1.shape; rw [e]; rfl
  have hK : Keeps Nowhere W (W.alloc (.cells #[v] 32)) := (Keeps.refl _ _).alloc _
  have l1 := h3.len
  obtain ⟨i, hi, hz0, hz1, hz2⟩ := info_parts linfo
  obtain ⟨v', w', run, o', k', b'⟩ := run_appendR (P := Tryz.prog) (W.alloc (.cells #[v] 32)) 0 39 32 i _ 1 24 Tryz.underlying39 hi hz0 hz1 hz2 rfl (by decide) pv vs.length vs (owns_later h1 hK (fun _ _ x => x)) _ 1 [v] (readsK_new W 32 [v]) (by simpa using hv1) (by omega) (by unfold maxLen; omega) (Nat.zero_le _)
  obtain ⟨a, c, rfl⟩ := owns_val o'
  have s1 : Sn (fun k => k = 1) own W (give own W.heap.size 1) w' := ⟨fun _ hk => give_old hk, hK.any.next (grown_keeps k') (fun b hb _ => h2 b hb)⟩
  have el : vs.length + 1 = k + 1 := by omega
  rw [el] at run o' b'
  refine ⟨a, c, w', run, ⟨⟨vs ++ [v], by rw [List.length_append, List.length_singleton, el]; exact o', fun b hb => ?_, ?_, fun u hu => ?_⟩, s1⟩⟩
  · rcases b' b hb with e | e
    · exact (give_old (owns_lt h1 b e)).trans (h2 b e)
    · exact give_new (Nat.le_trans hK.size e)
  · exact (h3.snoc hv).sn s1 (by decide)
  · rcases List.mem_append.1 hu with hu | hu
    · exact h4 u hu
    · simp only [List.mem_singleton] at hu; rw [hu]; exact hv1
/-- the bytes, and the pieces of them -/
structure Px (w : World) (bv : Value) (F : List Int) (pv : Value) (rs : List (List Int)) (t : Nat) (W : World) : Prop where
  x : ∃ own, RowL own 1 2 W pv rs ∧ ∀ k, k < w.heap.size → own k = 2
  k : Keeps Nowhere w W
  b : Rd W bv F
  f : rs.flatten = F.take t
  n : rs.length ≤ t
theorem Px.start {bv : Value} (h : Rd w bv F) : Px w bv F (.slice none 0 0) [] 0 w := ⟨⟨fun _ => 2, RowL.nil _ _ _ _, fun _ _ => rfl⟩, Keeps.refl _ _, h, by simp, by simp⟩
theorem Px.more {q : Option Addr} {n c t m : Nat} (h : Px w (.slice q n c) F pv rs t W) (h0 : Rd w (.slice q n c) F) (hm : 0 < m) (hn : t + m ≤ n) (hF : F.length = n) (hk : rs.length = k) (hb : n ≤ 1073741824) : ∃ (a : Option Addr) (pc : Nat) (w' : World), (∀ ty, (Builtin.append_ #[39, 39] ty #[pv, .slice (some ⟨W.heap.size, 0, none⟩) 1 1]).run Tryz.prog (W.alloc (.cells #[.slice (if c = t then q else q.map (·.add t)) m (c - t)] 32)) = .ok (.slice a (k + 1) pc) w') ∧ Aside (Px w (.slice q n c) F (.slice a (k + 1) pc) (rs ++ [(F.drop t).take m]) (t + m) w') := by
  obtain ⟨own, R, ho⟩ := h.x
  have hne : F ≠ [] := fun e => by rw [e] at hF; simp at hF; omega
  obtain ⟨g, o, c', eq, hcap, hc⟩ := Rd.at h0 hne
  injection eq with eq1 eq2 eq3
  subst eq1 eq3
  obtain ⟨y, ys, hy⟩ : ∃ y ys, F = y :: ys := by cases F with | nil => exact absurd rfl hne | cons y ys => exact ⟨y, ys, rfl⟩
  have hlt := World.block_lt_of_cell? w _ (hc 0 (.int .u8 y) (by rw [hy]; rfl))
  have R2 : Rd W (.slice (if c = t then (some ⟨g, o, none⟩ : Option Addr) else (some (⟨g, o, none⟩ : Addr)).map (·.add t)) m (c - t)) ((F.drop t).take m) := by
    have := RdS.seg (S := Nowhere) (n := m) (a := t) h.b (by omega)
    exact this
  have hv : RdO own 2 W (.slice (if c = t then (some ⟨g, o, none⟩ : Option Addr) else (some (⟨g, o, none⟩ : Addr)).map (·.add t)) m (c - t)) ((F.drop t).take m) := ⟨R2, fun b hb => by
    have e : b = g := by
      split at hb
      · simpa [Value.ownBlock] using hb.symm
      · simp only [Option.map_some, Value.ownBlock, Option.some.injEq, add_block] at hb
        exact hb.symm
    subst e
    exact ⟨Nat.lt_of_lt_of_le hlt h.k.size, ho _ hlt⟩⟩
  obtain ⟨a, pc, w', run, X⟩ := appP R hv hk (by have := h.n; omega)
  have s := X.it.2
  have K : Keeps Nowhere w w' := h.k.next s.keeps (fun b hb hlt => by have hb' : own b = 1 := hb; rw [ho b hlt] at hb'; cases hb')
  refine ⟨a, pc, w', run, ⟨⟨_, X.it.1, fun j hj => (s.agree j (Nat.lt_of_lt_of_le hj h.k.size)).trans (ho j hj)⟩, K, h0.later K.bel, ?_, ?_⟩⟩
  · rw [List.flatten_append, h.f, List.flatten_singleton, ← List.take_add]
  · have := h.n; rw [List.length_append, List.length_singleton]; omega
end
end Go.Proofs.YtbbldkldgjmmgaaGreatDoor

/-
  law 26: TapAgain, walked
-/
namespace Go.Proofs.YtbbldkldgjmmgaaGreatDoor
open Go.RowKit Go.Maps
attribute [-go_sem] run_index_string Builtin.append_

set_option maxRecDepth 20000 in
set_option maxHeartbeats 4000000 in
theorem tapAgain_walkU {A : Nat → Addr} (most : Int) (fr : Value) (zs : List FrV) (size : Int) (w : World) (hs : BaseW A w) (hz : FramesArgS w fr zs) :
    Calls Tryz.prog 3 #[.int .i64 most, fr, .int .i64 size] w fun e w' => e = .returned (.bool true) ∧ Below w.heap.size w w' := by
  obtain ⟨hl1, hsum, sa, sc, rfl, hlc, hmx, hat⟩ := hz
  obtain ⟨M, hM⟩ : ∃ M, Aside (M = zs.length) := ⟨_, ⟨rfl⟩⟩
  rw [← hM.it] at hlc hl1 ⊢
  have WK := Aside.mk (awake26 w hs.b hs.t)
  have HAT := Aside.mk hat
  have HS := Aside.mk hs
  have SUM := Aside.mk hsum
  have HL1 := Aside.mk hl1
  clear hat hs hsum hmx
  go_enter Tryz.func3, Tryz.ntmps3
  go_upto_region 5 with (first | (go_at_call 4; refine WK.it.mono ?_; rintro e w1 ⟨rfl, B1⟩) | fail)
  have P1 : Aside (Tx w most 0 (sumL zs 0) [] w1) := ⟨⟨B1.it, fun x hx => (by cases hx), by simp [flat], by simp [linesB]⟩⟩
  clear WK B1
  go_loopw [7, 8] (fun tv iv wr => ∃ (k : Nat) (fs : List (List Int × List Int)), tv = .string (str (linesB fs)) ∧ iv = .int .i64 k ∧ k ≤ M ∧ Aside (Tx w most k (sumL zs k) fs wr)) (fun _ iv _ => M - (intOf iv).toNat)
  case atStart => exact ⟨0, [], rfl, rfl, Nat.zero_le _, P1⟩
  case round =>
    obtain ⟨k, fs, rfl, rfl, hk, P2⟩ := hrel
    clear P1
    rcases Nat.eq_or_lt_of_le hk with e | hlt
    · subst e
      clear HAT
      have FG : Aside ((∀ x ∈ fs, FrGood most x ∧ x.2.length ≤ 1048576) ∧ (flat fs).length ≤ 14680064 ∧ (linesB fs).length ≤ 1099511627776) := ⟨by
        have h1 := P2.it.good
        have h2 := P2.it.len
        have h3 := P2.it.text
        have h4 := sumL_le zs k
        have h5 := SUM.it
        have h6 := HL1.it
        exact ⟨h1, by omega, by omega⟩⟩
      have FGG : Aside (∀ x ∈ fs, FrGood most x) := ⟨fun x hx => (FG.it.1 x hx).1⟩
      have AS := Aside.mk (assemble_at (A := A) wr (HS.it.b.s.later P2.it.bel) (HS.it.t.later P2.it.bel) (T := linesB fs) (NS := bytesOf fs) (wr_lines fs (fun x hx => ⟨FGG.it x hx, by have := (FG.it.1 x hx).2; omega⟩)) (bytesOf_len fs FGG.it) (by have := FG.it.2.2; omega) (by rw [bytesOf_flat]; have := FG.it.2.1; omega))
      rw [bytesOf_flat] at AS
      have i2 : ¬ (k : Int) < k := by omega
      have BL0 := Aside.mk P2.it.bel
      clear P2 HL1 SUM
      go_upto_region 11 with (first | (go_at_call 8; refine AS.it.mono ?_; rintro e w2 ⟨q, n, c, rfl, R2, B2⟩) | fail)
      clear AS
      obtain ⟨hFn, hcn⟩ : (flat fs).length = n ∧ n ≤ c := by
        obtain ⟨⟨a', c', e, hl, _⟩, _⟩ := R2.it
        injection e with e1 e2 e3
        rw [bv_length] at e2 hl
        omega
      have HFN := Aside.mk hFn
      have hn1 : n ≤ 14680064 := by have := FG.it.2.1; omega
      have X0 := Aside.mk (Px.start R2.it)
      have BL2 : Aside (Below w.heap.size w w2) := ⟨BL0.it.trans (B2.it.mono BL0.it.size)⟩
      clear hFn B2 BL0
      obtain ⟨z, hz, hz1⟩ : ∃ z : Int, Aside ((size < 1 ∧ z = 1) ∨ (¬ size < 1 ∧ z = size)) ∧ 1 ≤ z := by
        by_cases h : size < 1
        · exact ⟨1, ⟨.inl ⟨h, rfl⟩⟩, by omega⟩
        · exact ⟨size, ⟨.inr ⟨h, rfl⟩⟩, by omega⟩
      go_upto_region 13 with fail
      by_cases hsz : size < 1
      have hz2 : z = 1 := by rcases hz.it with h | h; exact h.2; exact absurd hsz h.1
      go_upto_region 17 with fail
      rw [← hz2]
      clear hz2
      rotate_left
      have hz2 : z = size := by rcases hz.it with h | h; exact absurd h.1 (by omega); exact h.2
      go_upto_region 17 with fail
      rw [← hz2]
      clear hz2
      all_goals
        clear hsz hz
        go_loopw [13, 14] (fun pv av wr => ∃ (rs : List (List Int)) (t j : Nat) (pq : Option Addr) (pc : Nat), pv = .slice pq j pc ∧ av = .int .i64 t ∧ t ≤ n ∧ Aside (rs.length = j) ∧ Aside (Px w2 (.slice q n c) (flat fs) (.slice pq j pc) rs t wr)) (fun _ av _ => n - (intOf av).toNat)
        case atStart => exact ⟨[], 0, 0, none, 0, rfl, rfl, Nat.zero_le _, ⟨rfl⟩, X0⟩
        case round =>
          obtain ⟨rs, t, j, pq, pc, rfl, rfl, ht, HJ, X⟩ := hrel
          clear X0
          rcases Nat.eq_or_lt_of_le ht with e | hlt
          · subst e
            have i3 : ¬ (t : Int) < t := by omega
            have hjt : j ≤ t := by have := X.it.n; have := HJ.it; omega
            have BW : Aside (Below w.heap.size w wr) := ⟨BL2.it.trans (X.it.k.bel.mono BL2.it.size)⟩
            by_cases hm : most < 1 ∨ 65536 < most
            · have HB := Aside.mk (heard_bad (A := A) wr (HS.it.b.later BW.it) hm (.slice pq j pc))
              go_upto_region 22 with (first | (go_at_call 9; refine HB.it.mono ?_; rintro e w3 ⟨rfl, B3⟩) | fail)
              clear HB
              have BW3 : Aside (Below w.heap.size w w3) := ⟨BW.it.trans (B3.it.mono BW.it.size)⟩
              by_cases h1 : most < 1
              · have d1 : decide (most < 1) = true := decide_eq_true h1
                go_wp2_with fail
                go_ret
                exact ⟨rfl, BW3.it⟩
              · have h2 : 65536 < most := by omega
                have d1 : decide (most < 1) = false := decide_eq_false h1
                have d2 : decide (65536 < most) = true := decide_eq_true h2
                go_wp2_with fail
                go_ret
                exact ⟨rfl, BW3.it⟩
            · have HH := Aside.mk (heard_at (A := A) (most := most) (by omega) (by omega) wr (HS.it.b.later BW.it) (HS.it.t.later BW.it) (pq := pq) (n := j) (pc := pc) (rs := rs)
                (by obtain ⟨own, R, _⟩ := X.it.x; exact R.rdl (fun _ _ => rfl)) HJ.it (by omega) (fs := fs) FGG.it (by rw [X.it.f, List.take_of_length_le (by rw [HFN.it]; exact Nat.le_refl _)]) (by have := FG.it.2.1; omega) FG.it.2.2
                (fun r hr x hx => flat_bytes fs FGG.it x (List.mem_of_mem_take (by rw [← X.it.f]; exact List.mem_flatten.2 ⟨r, hr, hx⟩))))
              go_upto_region 23 with (first | (go_at_call 9; refine HH.it.mono ?_; rintro e w3 ⟨p, rfl, T3⟩) | fail)
              clear HH
              obtain ⟨own3, dp, N3, T⟩ := T3.it
              have ER := Aside.mk (tapErr_at T)
              have BT := Aside.mk T.g.g.bel
              clear T T3
              go_wp2_with (first | (go_at_call 10; refine ER.it.mono ?_; rintro e w4 ⟨rfl, K4⟩) | fail)
              go_ret
              exact ⟨rfl, BW.it.trans ((BT.it.trans (K4.it.bel.mono BT.it.size)).mono BW.it.size)⟩
          · obtain ⟨m, hm, hm0, hmn⟩ : ∃ m : Nat, min z ((n : Int) - t) = m ∧ 0 < m ∧ t + m ≤ n := by
              exact ⟨(min z ((n : Int) - t)).toNat, by omega, by omega, by omega⟩
            obtain ⟨a', pc', w', run, X'⟩ := X.it.more R2.it hm0 hmn HFN.it HJ.it (by omega)
            have hct : ¬ c = t := by omega
            rw [if_neg hct] at run
            have i3 : (t : Int) < n := by omega
            have i4 : (n : Int) ≤ 14680064 := by omega
            have HJ' : Aside ((rs ++ [((flat fs).drop t).take m]).length = j + 1) := ⟨by rw [List.length_append, HJ.it]; rfl⟩
            clear X HJ
            have hT : ((t : Int) + (m : Int)).toNat - t = m := by omega
            have hT2 : ((t : Int) + (m : Int)).toNat = t + m := by omega
            have hT3 : t + m - t = m := by omega
            have i5 : (t : Int) + m ≤ n := by omega
            have i6 : n ≤ c := hcn
            go_wp2_with fail
            go_roundw
            case rel => exact ⟨rs ++ [((flat fs).drop t).take m], t + m, j + 1, a', pc', rfl, by go_num, hmn, HJ', X'⟩
            case measure => simp [intOf]; omega
    · have hx : zs[k]? = some (zs[k]'(by rw [← hM.it]; exact hlt)) := List.getElem?_eq_getElem _
      generalize zs[k]'(by rw [← hM.it]; exact hlt) = z at hx
      obtain ⟨⟨v, t, f, s, l⟩, dv, ns⟩ := z
      have HSU := Aside.mk (sumL_succ hx)
      obtain ⟨sb, so, cells, rfl, ⟨ecs, hok, hR, hbs, _, hnl⟩, _, hc⟩ := HAT.it k _ hx
      simp only [FrV.cells] at ecs hR hbs hnl
      subst ecs
      obtain ⟨dq, dc, rfl⟩ := hR.shape
      obtain ⟨N, hN⟩ : ∃ N, Aside (ns.length = N) := ⟨_, ⟨rfl⟩⟩
      rw [hN.it] at hR hc hnl
      have B2 := P2.it.bel
      have e0 : wr.cell? ⟨sb, so + k * 6, none⟩ = some (.int .u8 v) := by have := hc 0 (by decide); rw [Nat.add_zero] at this; rw [B2.cell (World.block_lt_of_cell? w _ (this.trans rfl))]; exact this
      have e1 : wr.cell? ⟨sb, so + k * 6 + 1, none⟩ = some (.int .u8 t) := by have := hc 1 (by decide); rw [B2.cell (World.block_lt_of_cell? w _ (this.trans rfl))]; exact this
      have e2 : wr.cell? ⟨sb, so + k * 6 + 2, none⟩ = some (.int .u16 f) := by have := hc 2 (by decide); rw [B2.cell (World.block_lt_of_cell? w _ (this.trans rfl))]; exact this
      have e3 : wr.cell? ⟨sb, so + k * 6 + 3, none⟩ = some (.int .u32 s) := by have := hc 3 (by decide); rw [B2.cell (World.block_lt_of_cell? w _ (this.trans rfl))]; exact this
      have e4 : wr.cell? ⟨sb, so + k * 6 + 4, none⟩ = some (.int .u32 l) := by have := hc 4 (by decide); rw [B2.cell (World.block_lt_of_cell? w _ (this.trans rfl))]; exact this
      have e5 : wr.cell? ⟨sb, so + k * 6 + 5, none⟩ = some (.slice dq N dc) := by have := hc 5 (by decide); rw [B2.cell (World.block_lt_of_cell? w _ (this.trans rfl))]; exact this
      have i2 : (k : Int) < M := by omega
      have i3 : (0 : Int) ≤ k := by omega
      have i4 : (k : Int) ≤ 9223372036854775806 := by have := HL1.it; omega
      simp only [HV.ok] at hok
      have FT : Fits v t f s l := ⟨hok.1.1, hok.1.2, hok.2.1.1, hok.2.1.2, hok.2.2.1.1, hok.2.2.1.2, hok.2.2.2.1.1, hok.2.2.2.1.2, hok.2.2.2.2.1, hok.2.2.2.2.2⟩
      have FT := Aside.mk FT
      have HBS := Aside.mk hbs
      have HNL := Aside.mk hnl
      have E := Aside.mk (And.intro e0 (And.intro e1 (And.intro e2 (And.intro e3 e4))))
      have CP := Aside.mk (copied_at (v := v) (t := t) (f := f) (s := s) (l := l) wr (hR.later B2) hN.it (by omega))
      have LN : Aside (∀ W d, Below wr.heap.size wr W → Rd W d ns → Calls Tryz.prog 5 #[frm v t f s l d] W fun e w' => (((ns.length : Int) = szH t l ∧ e = .returned (.tuple #[.string (str (lineB v t f s l ns)), .nilIface]) ∨ (ns.length : Int) ≠ szH t l ∧ ∃ a, e = .returned (.tuple #[.string (str []), .iface 204 (.pointer (some a))]))) ∧ Aside (Below W.heap.size W w')) := ⟨fun W d hb hr =>
        line_at (A := A) W (HS.it.b.s.later (B2.trans (hb.mono B2.size))) (HS.it.t.later (B2.trans (hb.mono B2.size))) FT.it hr HBS.it (by rw [hN.it]; omega)⟩
      clear hc hx HAT B2 hok hR hbs hnl
      by_cases hsz : (ns.length : Int) = szH t l
      · go_upto_region 8 with (first
          | (go_at_call 6; refine CP.it.mono ?_; rintro e w3 ⟨cq, cc, rfl, R3, B3⟩)
          | (go_at_call 5; refine (LN.it _ _ B3.it R3.it).mono ?_; rintro e w4 ⟨hh, B4⟩; obtain rfl : e = .returned (.tuple #[.string (str (lineB v t f s l ns)), .nilIface]) := by (rcases hh with h | h; exact h.2; exact absurd hsz h.1))
          | fail)
        clear e0 e1 e2 e3 e4 e5 CP LN
        have B5 : Aside (Below wr.heap.size wr w4) := ⟨B3.it.trans (B4.it.mono B3.it.size)⟩
        clear R3 B3 B4
        obtain ⟨e0, e1, e2, e3, e4⟩ : w4.cell? ⟨sb, so + k * 6, none⟩ = some (.int .u8 v) ∧ w4.cell? ⟨sb, so + k * 6 + 1, none⟩ = some (.int .u8 t) ∧ w4.cell? ⟨sb, so + k * 6 + 2, none⟩ = some (.int .u16 f) ∧ w4.cell? ⟨sb, so + k * 6 + 3, none⟩ = some (.int .u32 s) ∧ w4.cell? ⟨sb, so + k * 6 + 4, none⟩ = some (.int .u32 l) := by
          have h := E.it
          have hb : sb < wr.heap.size := cell_lt h.1
          exact ⟨(B5.it.cell hb).trans h.1, (B5.it.cell hb).trans h.2.1, (B5.it.cell hb).trans h.2.2.1, (B5.it.cell hb).trans h.2.2.2.1, (B5.it.cell hb).trans h.2.2.2.2⟩
        have BW : Aside (Below w.heap.size w w4) := ⟨P2.it.bel.trans (B5.it.mono P2.it.bel.size)⟩
        have CK := Aside.mk (check_any (A := A) v t f s l most w4 (HS.it.b.s.later BW.it) (HS.it.b.l.later BW.it) FT.it.t0 FT.it.t1 FT.it.f0 FT.it.l0 FT.it.l1)
        clear E BW
        by_cases hck : chk v t f s l most = 0
        · rw [hck] at CK
          have TM := fun W (hb : Below wr.heap.size wr W) => P2.it.more hb FT.it hck hsz HBS.it hN.it HNL.it
          have TL := (TM wr (Below.refl _ _)).1.text
          have TE := (TM wr (Below.refl _ _)).2
          have TB : Aside ((linesB fs).length + ((lineB v t f s l ns).length + 1) ≤ 1099511627776) := ⟨by
            have h1 := congrArg List.length TE
            rw [List.length_append, List.length_append] at h1
            have h2 : (linesB fs).length + ((lineB v t f s l ns).length + 1) = (linesB (fs ++ [(enc v t f s l, ns)])).length := h1.symm
            have h3 := sumL_le zs (k + 1)
            have h6 : sumL zs (k + 1) = sumL zs k + N := by rw [HSU.it]; show _ + ns.length = _; rw [hN.it]
            have h4 := SUM.it
            have h5 := HL1.it
            omega⟩
          have AD1 := add_str (lineB v t f s l ns) [10] (by have := TB.it; show _ + 1 ≤ _; omega)
          have AD2 := add_str (linesB fs) (lineB v t f s l ns ++ [10]) (by have := TB.it; rw [List.length_append]; show _ + (_ + 1) ≤ _; omega)
          have TE := Aside.mk TE
          have TM := Aside.mk TM
          clear TL TB hck hsz
          go_wp2_with (first | (go_at_call 7; refine CK.it.mono ?_; rintro e w5 ⟨⟨ev, rfl, V5⟩, B6⟩; have ez := V5.zero; subst ez; have B7 := Aside.mk (B5.it.trans (B6.mono B5.it.size))) | fail)
          go_roundw
          case rel => exact ⟨k + 1, fs ++ [(enc v t f s l, ns)], by rw [TE.it], by go_num, hlt, ⟨by rw [HSU.it, hN.it]; exact (TM.it _ B7.it).1⟩⟩
          case measure => simp [intOf]; omega
        · go_wp2_with (first | (go_at_call 7; refine CK.it.mono ?_; rintro e w5 ⟨⟨ev, rfl, V5⟩, B6⟩; obtain ⟨ea, ez⟩ := V5.pos hck; subst ez; have B7 := Aside.mk (B5.it.trans (B6.mono B5.it.size))) | fail)
          go_roundw
          case rel => exact ⟨k + 1, fs, rfl, by go_num, hlt, ⟨by rw [HSU.it]; exact P2.it.less _ B7.it⟩⟩
          case measure => simp [intOf]; omega
      · go_wp2_with (first
          | (go_at_call 6; refine CP.it.mono ?_; rintro e w3 ⟨cq, cc, rfl, R3, B3⟩)
          | (go_at_call 5; refine (LN.it _ _ B3.it R3.it).mono ?_; rintro e w4 ⟨hh, B4⟩; obtain ⟨ea, rfl⟩ : ∃ a, e = .returned (.tuple #[.string (str []), .iface 204 (.pointer (some a))]) := by (rcases hh with h | h; exact absurd h.1 hsz; exact h.2))
          | fail)
        go_roundw
        case rel => exact ⟨k + 1, fs, rfl, by go_num, hlt, ⟨by rw [HSU.it]; exact P2.it.less _ (B3.it.trans (B4.it.mono B3.it.size))⟩⟩
        case measure => simp [intOf]; omega
end Go.Proofs.YtbbldkldgjmmgaaGreatDoor

