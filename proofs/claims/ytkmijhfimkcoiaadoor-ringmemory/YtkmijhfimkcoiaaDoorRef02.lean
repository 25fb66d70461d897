/-
  culvertref02: the document's ring, call by call
-/
import Derived.Test.YtkmijhfimkcoiaaDoorBase
import Derived.Test.YtkmijhfimkcoiaaDoorRingTwo
import Derived.Handy
import Derived.Laws.ResultCell
namespace Go.Proofs.YtkmijhfimkcoiaaDoor
open Go.RowKit

/-- the document's ring as a value -/
def refV (cap : Int) (s : Value) : Value := .agg #[.int .i64 cap, s]

theorem intInfo : (Tryd.prog.info? 3).map (fun i => (i.zero, i.size, i.bytes)) = some (some (.int .i64 0), 1, 8) := by kernel_rfl

theorem owns_shape {w : World} {base : Nat} {e : TypeId} {size n : Nat} {v : Value} {xs : List Value} (h : w.ownsRow base e size v n xs) : ∃ p q r, v = .slice p q r := by
  rcases h.2 with ⟨h, _⟩ | ⟨_, _, _, h, _⟩
  · exact ⟨_, _, _, h⟩
  · exact ⟨_, _, _, h⟩
theorem refFree_ok (w : World) (cap : Nat) (a : Option Addr) (l c : Nat) (hl : l ≤ cap) (hc : cap ≤ 2147483647) :
    Calls Tryd.prog 26 #[.agg #[.int .i64 cap, .slice a l c]] w fun e w' => e = .returned (.int .i64 ((cap : Int) - l)) ∧ Keeps Nowhere w w' := by
  go_enter Tryd.func26, Tryd.ntmps26
  go_wp2
  go_ret
  exact ⟨rfl, (Keeps.refl _ _).alloc _⟩
theorem refCount_ok (w : World) (cap : Nat) (a : Option Addr) (l c : Nat) (n : Int) (m : Nat) (hm : m = Nat.min n.toNat l) (hl : l ≤ 2147483647) :
    Calls Tryd.prog 29 #[.agg #[.int .i64 cap, .slice a l c], .int .i64 n] w fun e w' => e = .returned (.int .i64 m) ∧ Keeps Nowhere w w' := by
  have hm' : (n < 0 ∧ m = 0) ∨ (0 ≤ n ∧ n ≤ l ∧ (m : Int) = n) ∨ (0 ≤ n ∧ (l : Int) < n ∧ m = l) := by
    subst hm
    simp only [Nat.min_def]
    split <;> omega
  have HM : Aside _ := ⟨hm'⟩
  clear hm hm'
  go_enter Tryd.func29, Tryd.ntmps29
  go_wp2
  all_goals
    have := HM.it
    go_ret
    refine ⟨?_, (Keeps.refl _ _).alloc _⟩
    refine congrArg Ending.returned ?_
    show Value.int .i64 _ = Value.int .i64 _
    congr 1
    omega
set_option maxHeartbeats 2000000 in
set_option maxRecDepth 100000 in
theorem refPush_ok (w : World) (cap : Nat) (sv : Value) (l xs : List Int) (src : Value) (hs : ReadsOff Nowhere w sv (iv l)) (hsn : NilOk sv) (hx : ReadsOff Nowhere w src (iv xs)) (hxn : NilOk src) (hl : l.length ≤ cap) (hc : cap ≤ 2147483647)
    (hxl : xs.length ≤ 9223372036854775807) (t : Nat) (ht : t = Nat.min xs.length (cap - l.length)) :
    Calls Tryd.prog 7 #[.agg #[.int .i64 cap, sv], src] w fun e w' => ∃ v', e = .returned (.tuple #[.agg #[.int .i64 cap, v'], .int .i64 t]) ∧ ReadsOff (fun k => k < w.heap.size) w' v' (iv (l ++ xs.take (cap - l.length))) ∧ NilOk v' ∧ Keeps Nowhere w w' := by
  obtain ⟨sa, sc, rfl, hsl, hsc⟩ := id hs
  obtain ⟨xa, xc, rfl, hxlc, hxc⟩ := id hx
  have ht1 : t ≤ xs.length := by rw [ht]; exact Nat.min_le_left _ _
  have ht2 : t ≤ cap - l.length := by rw [ht]; exact Nat.min_le_right _ _
  have hcase : (xs.length ≤ cap - l.length ∧ t = xs.length) ∨ (cap - l.length < xs.length ∧ t = cap - l.length) := by
    rw [ht]; simp only [Nat.min_def]; split <;> omega
  have etake : xs.take (cap - l.length) = xs.take t := by
    rcases hcase with ⟨h, e⟩ | ⟨h, e⟩
    · rw [e, List.take_length, List.take_of_length_le h]
    · rw [e]
  rw [etake]
  have eI : ∀ k : List Int, (iv k).length = k.length := iv_length
  rw [iv_length] at hsl hxlc ⊢
  rw [iv_length]
  obtain ⟨ln, hln⟩ : ∃ ln, ln = l.length := ⟨_, rfl⟩
  obtain ⟨xn, hxn'⟩ : ∃ xn, xn = xs.length := ⟨_, rfl⟩
  rw [← hln] at hl hsl hcase ht2 ⊢
  rw [← hxn'] at hxlc hcase ht1 hxl ⊢
  have HS : Aside _ := ⟨hs⟩
  have HX : Aside _ := ⟨hx⟩
  have HSN : Aside _ := ⟨hsn⟩
  have HXN : Aside _ := ⟨hxn⟩
  have HLN : Aside _ := ⟨hln⟩
  have HXN' : Aside _ := ⟨hxn'⟩
  have CASE : Aside _ := ⟨hcase⟩
  clear hs hx hsn hxn hsc hxc hcase ht etake hln hxn' eI
  go_enter Tryd.func7, Tryd.ntmps7
  go_upto_region 1 with fail
  obtain ⟨w1, hw1⟩ : ∃ w1, w1 = (w.alloc (.cells [.int .i64 cap, .slice sa ln sc].toArray 32)).alloc (.cells [.int .i64 0, .slice none 0 0].toArray 32) := ⟨_, rfl⟩
  have ew : (w.alloc (.cells #[.int .i64 cap, .slice sa ln sc] 32)).alloc (.cells #[.int .i64 0, .slice none 0 0] 32) = w1 := hw1.symm
  rw [ew]
  have K1 : Aside (Keeps Nowhere w w1) := ⟨by rw [hw1]; exact ((Keeps.refl _ _).alloc _).alloc _⟩
  obtain ⟨b0, hb0⟩ : ∃ b0, b0 = w.heap.size := ⟨_, rfl⟩
  have C0 : Aside (Cells w1 b0 32 [.int .i64 cap, .slice sa ln sc]) := ⟨by rw [hw1, hb0]; exact (Cells.new w _ _).later (S := Nowhere) ((Keeps.refl _ _).alloc _) (fun x => x)⟩
  have C1 : Aside (Cells w1 (b0 + 1) 32 [.int .i64 0, .slice none 0 0]) := ⟨by
    have h := Cells.new (w.alloc (.cells [.int .i64 cap, .slice sa ln sc].toArray 32)) 32 [.int .i64 0, .slice none 0 0]
    rw [show (w.alloc (.cells [.int .i64 cap, .slice sa ln sc].toArray 32)).heap.size = b0 + 1 by rw [hb0]; simp] at h
    rw [hw1]; exact h⟩
  have HB0 : Aside _ := ⟨hb0⟩
  rw [← hb0]
  clear ew hw1 hb0
  have c00 : w1.cell? ⟨b0, 0, none⟩ = some (.int .i64 cap) := by rw [C0.it.cell]; rfl
  have c01 : w1.cell? ⟨b0, 1, none⟩ = some (.slice sa ln sc) := by rw [C0.it.cell]; rfl
  go_wp2_with fail
  refine (refFree_ok w1 cap sa ln sc hl hc).mono ?_
  rintro e w2 ⟨rfl, k2⟩
  have d0 := C0.it.later k2 (fun x => x)
  have c20 : w2.cell? ⟨b0, 0, none⟩ = some (.int .i64 cap) := by rw [d0.cell]; rfl
  have c21 : w2.cell? ⟨b0, 1, none⟩ = some (.slice sa ln sc) := by rw [d0.cell]; rfl
  have K2 : Aside _ := ⟨k2⟩
  clear k2 d0
  go_upto_if 13 with fail
  go_cut [6] (fun c wx => c = .int .i64 t ∧ Keeps Nowhere w1 wx)
  · rcases CASE.it with ⟨h, rfl⟩ | ⟨h, e⟩
    · have h' : ¬ ((cap : Int) - ln < t) := by omega
      go_wp2
      all_goals first
        | (go_meet; exact ⟨rfl, K2.it⟩)
        | (exfalso; omega)
    · have h' : ((cap : Int) - ln < xn) := by omega
      have E : Aside _ := ⟨e⟩
      clear e
      go_wp2_with fail
      refine (refFree_ok w2 cap sa ln sc hl hc).mono ?_
      rintro e w3 ⟨rfl, k3⟩
      have K3 : Aside _ := ⟨K2.it.trans k3⟩
      clear k3
      go_wp2
      go_meet
      have := E.it
      refine ⟨?_, K3.it⟩
      show Value.int .i64 _ = Value.int .i64 _
      congr 1
      omega
  · obtain ⟨rfl, k2⟩ := hcut
    clear K2
    have K2 : Aside _ := ⟨K1.it.trans k2⟩
    have D0 : Aside _ := ⟨C0.it.later k2 (fun x => x)⟩
    have D1 : Aside _ := ⟨C1.it.later k2 (fun x => x)⟩
    clear k2 C0 C1 K1 c00 c01 c20 c21 CASE
    have c01 : wc.cell? ⟨b0, 1, none⟩ = some (.slice sa ln sc) := by rw [D0.it.cell]; rfl
    have hb0 : b0 < wc.heap.size := D0.it.lt
    have hb1 : b0 + 1 < wc.heap.size := D1.it.lt
    obtain ⟨i0, hi, hz0, hz1, hz2⟩ := info_parts intInfo
    obtain ⟨w3, hw3⟩ : ∃ w3, w3 = wc.alloc (.cells #[] 3) := ⟨_, rfl⟩
    have k3 : Keeps Nowhere wc w3 := by rw [hw3]; exact (Keeps.refl _ _).alloc _
    have o3 : w3.ownsRow wc.heap.size 3 1 (.slice (some ⟨wc.heap.size, 0, none⟩) 0 0) (iv []).length (iv []) := by rw [hw3]; exact owns_empty wc 3
    have r3 := (HS.it.later (K2.it.trans k3)).mono (S' := Nowhere) (fun _ x _ => x.elim)
    obtain ⟨v4, w4, run4, o4, g4⟩ := run_appendK (P := Tryd.prog) w3 wc.heap.size 27 3 i0 (.int .i64 0) 8 Tryd.underlying27 hi hz0 hz1 hz2 rfl _ _ o3 _ (iv l) r3 HSN.it (iv_one l) (by rw [iv_length, iv_length, ← HLN.it, List.length_nil]; omega) (by rw [iv_length, iv_length, ← HLN.it, List.length_nil]; unfold maxLen; omega) k3.size
    rw [iv_append, List.nil_append] at o4
    have k34 := grown_keeps g4
    have hx3 := (HX.it.later (K2.it.trans k3)).mono (S' := fun k => wc.heap.size ≤ k) (fun k h _ => .inr (Nat.le_trans K2.it.size h))
    have k34' : Keeps (fun k => wc.heap.size ≤ k) w3 w4 := k34.mono (fun k e _ => by simp only [Value.ownBlock, Option.some.injEq] at e; omega)
    have hx4 := (hx3.later k34').mono (S' := Nowhere) (fun _ x _ => x.elim)
    have hx4t := hx4.slice t (by rw [iv_length, ← HXN'.it]; exact ht1)
    have nt : NilOk (.slice xa t xc) := fun a b e => by injection e with e1 e2 e3; subst e1 e3; exact HXN.it _ xc rfl
    obtain ⟨v5, w5, run5, o5, g5⟩ := run_appendK (P := Tryd.prog) w4 wc.heap.size 27 3 i0 (.int .i64 0) 8 Tryd.underlying27 hi hz0 hz1 hz2 rfl v4 (iv l) o4 _ _ hx4t nt (by rw [iv_take]; exact iv_one _) (by rw [iv_take, iv_length, iv_length, ← HLN.it, List.length_take]; omega) (by rw [iv_take, iv_length, iv_length, ← HLN.it, List.length_take]; unfold maxLen; omega) (Nat.le_trans k3.size k34.size)
    rw [iv_take, iv_append] at o5
    have k35 : Keeps (fun k => wc.heap.size ≤ k) w3 w5 := k34'.next (grown_keeps g5) (fun k e _ => (o4.lt k e).1)
    have k25 : Keeps (fun k => wc.heap.size ≤ k) wc w5 := k3.any.trans k35
    have R5 := owns_reads o5
    have e0 := D0.it.later k25 (by omega)
    have e1 := D1.it.later k25 (by omega)
    rw [iv_length, ← HLN.it] at run4
    have RUN4 : Aside (∀ ty, (Builtin.append_ #[27, 27] ty #[.slice (some ⟨wc.heap.size, 0, none⟩) 0 0, .slice sa ln sc]).run Tryd.prog (wc.alloc (.cells #[] 3)) = .ok v4 w4) := ⟨by rw [← hw3]; exact run4⟩
    have RUN5 : Aside (∀ ty, (Builtin.append_ #[27, 27] ty #[v4, .slice xa t xc]).run Tryd.prog w4 = .ok v5 w5) := ⟨run5⟩
    have f0 := e0.frozen 1
    have f1 := e1.frozen 0
    have f2 := e1.frozen 1
    have a1 : w5.cell? ⟨b0, 1, none⟩ = some (.slice sa ln sc) := by rw [e0.cell]; rfl
    have a0 : w5.cell? ⟨b0, 0, none⟩ = some (.int .i64 cap) := by rw [e0.cell]; rfl
    have a2 : w5.cell? ⟨b0 + 1, 0, none⟩ = some (.int .i64 0) := by rw [e1.cell]; rfl
    have a3 : w5.cell? ⟨b0 + 1, 1, none⟩ = some (.slice none 0 0) := by rw [e1.cell]; rfl
    have KK : Aside (Keeps Nowhere w w5) := ⟨K2.it.next k25 (fun k h hk => by have := K2.it.size; omega)⟩
    have RR : Aside (ReadsOff (fun k => k < wc.heap.size) w5 v5 (iv (l ++ xs.take t)) ∧ NilOk v5) := ⟨R5⟩
    have hwc : w.heap.size ≤ wc.heap.size := K2.it.size
    have hbk : w.heap.size ≤ b0 := by have := HB0.it; omega
    have v5s : ∃ p q r, v5 = .slice p q r := by
      rcases o5.2 with ⟨h, _⟩ | ⟨_, _, _, h, _⟩
      · exact ⟨_, _, _, h⟩
      · exact ⟨_, _, _, h⟩
    obtain ⟨p5, q5, r5, hv5⟩ := v5s
    subst hv5
    have E1 : Aside _ := ⟨e1⟩
    clear hw3 k3 o3 r3 run4 o4 g4 k34 hx3 k34' hx4 hx4t nt run5 o5 g5 k35 k25 R5 e0 e1 hi hz0 hz1 hz2 D0 D1 K2
    go_wp2_with (first | (at_builtin; refine wpList_appendK rfl (.tmp 16) (.tmp 18) _ rfl _ _ v4 w4 rfl rfl RUN4.it ?_) | (at_builtin; refine wpList_appendK rfl (.tmp 20) (.tmp 23) _ rfl _ _ _ w5 rfl rfl RUN5.it ?_))
    obtain ⟨w9, hw9⟩ : ∃ w9, w9 = ((w5.setCell ⟨b0, 1, none⟩ (.slice p5 q5 r5)).setCell ⟨b0 + 1, 0, none⟩ (.int .i64 cap)).setCell ⟨b0 + 1, 1, none⟩ (.slice p5 q5 r5) := ⟨_, rfl⟩
    rw [← hw9]
    have e9 : Cells w9 (b0 + 1) 32 [.int .i64 cap, .slice p5 q5 r5] := by
      rw [hw9]
      exact ((E1.it.setOther _ _ (by show b0 + 1 ≠ b0; omega)).setCell 0 _).setCell 1 _
    have k9 : Keeps (fun k => k = b0 ∨ k = b0 + 1) w5 w9 := by
      rw [hw9]
      exact (((Keeps.refl _ _).setCell ⟨b0, 1, none⟩ _ (fun _ => .inl rfl)).setCell ⟨b0 + 1, 0, none⟩ _ (fun _ => .inr rfl)).setCell ⟨b0 + 1, 1, none⟩ _ (fun _ => .inr rfl)
    have q0 : w9.cell? ⟨b0 + 1, 0, none⟩ = some (.int .i64 cap) := by rw [e9.cell]; rfl
    have q1 : w9.cell? ⟨b0 + 1, 1, none⟩ = some (.slice p5 q5 r5) := by rw [e9.cell]; rfl
    have FIN : Aside (ReadsOff (fun k => k < w.heap.size) w9 (.slice p5 q5 r5) (iv (l ++ xs.take t)) ∧ Keeps Nowhere w w9) := by
      refine ⟨?_, ?_⟩
      · have h1 := (RR.it.1.mono (S' := fun k => k = b0 ∨ k = b0 + 1 ∨ k < w.heap.size) (by rintro k (h | h | h) _ <;> omega))
        refine (h1.later (k9.mono (S' := fun k => k = b0 ∨ k = b0 + 1 ∨ k < w.heap.size) (by rintro k (h | h) _ <;> simp [h]))).mono (fun k h _ => .inl (.inr (.inr h)))
      · exact KK.it.next k9 (by rintro k (h | h) hk <;> omega)
    clear hw9 e9 k9 E1
    refine bodyPost_ret (v := .tuple #[.agg #[.int .i64 cap, .slice p5 q5 r5], .int .i64 t]) (by simp [results, Tryd.results7, go_sem, q0, q1]) rfl ?_
    exact ⟨_, rfl, FIN.it.1, RR.it.2, FIN.it.2⟩
theorem drew_cell {w : World} {p : Addr} {v : Value} (h : w.cell? p = some v) : w.drew.cell? p = some v := h
theorem refCells {w : World} {b : Nat} {x y : Value} (h : Cells w b 32 [x, y]) : w.cell? ⟨b, 0, none⟩ = some x ∧ w.cell? ⟨b, 1, none⟩ = some y := by
  rw [h.cell, h.cell]; exact ⟨rfl, rfl⟩
set_option maxHeartbeats 2000000 in
set_option maxRecDepth 100000 in
theorem refPeek_ok (w : World) (cap : Nat) (sv : Value) (l : List Int) (hs : ReadsOff Nowhere w sv (iv l)) (hsn : NilOk sv) (hl : l.length ≤ 2147483647) (n : Int) :
    Calls Tryd.prog 11 #[.agg #[.int .i64 cap, sv], .int .i64 n] w fun e w' => ∃ v', e = .returned v' ∧ ReadsOff (fun k => k < w.heap.size) w' v' (iv (l.take n.toNat)) ∧ NilOk v' ∧ Keeps Nowhere w w' := by
  obtain ⟨sa, sc, rfl, hsl, hsc⟩ := id hs
  obtain ⟨m, hm⟩ : ∃ m, m = Nat.min n.toNat l.length := ⟨_, rfl⟩
  have hml : m ≤ l.length := by rw [hm]; exact Nat.min_le_right _ _
  have etake : l.take n.toNat = l.take m := by
    rw [hm]; simp only [Nat.min_def]; split
    · rfl
    · rw [List.take_length, List.take_of_length_le (by omega)]
  rw [etake]
  have RC := refCount_ok (cap := cap) (a := sa) (c := sc) (l := l.length) (n := n) (m := m) (hm := hm) (hl := hl)
  have r1 := hs.slice m (by rw [iv_length]; exact hml)
  have n1 : NilOk (.slice sa m sc) := fun a b e => by injection e with e1 e2 e3; subst e1 e3; exact hsn _ sc rfl
  rw [iv_take] at r1
  rw [iv_length] at hsl ⊢
  obtain ⟨ln, hln⟩ : ∃ ln, ln = l.length := ⟨_, rfl⟩
  rw [← hln] at hl hsl hml RC ⊢
  have R1 : Aside _ := ⟨r1⟩
  have N1 : Aside _ := ⟨n1⟩
  have RCA : Aside _ := ⟨RC⟩
  have hmt : (l.take m).length = m := by simp; omega
  have HMT : Aside _ := ⟨hmt⟩
  have hmsc : m ≤ sc := by omega
  clear hs hsn hsc hm etake RC r1 n1 hln hmt
  go_enter Tryd.func11, Tryd.ntmps11
  go_upto_region 1 with fail
  obtain ⟨w1, hw1⟩ : ∃ w1, w1 = w.alloc (.cells [.int .i64 cap, .slice sa ln sc].toArray 32) := ⟨_, rfl⟩
  have ew : w.alloc (.cells #[.int .i64 cap, .slice sa ln sc] 32) = w1 := hw1.symm
  rw [ew]
  have K1 : Aside (Keeps Nowhere w w1) := ⟨by rw [hw1]; exact (Keeps.refl _ _).alloc _⟩
  obtain ⟨b0, hb0⟩ : ∃ b0, b0 = w.heap.size := ⟨_, rfl⟩
  have C0 : Aside (Cells w1 b0 32 [.int .i64 cap, .slice sa ln sc]) := ⟨by rw [hw1, hb0]; exact Cells.new w _ _⟩
  have hs1 : w.heap.size ≤ w1.heap.size := K1.it.size
  rw [← hb0]
  clear ew hw1 hb0
  have c0 : w1.cell? ⟨b0, 0, none⟩ = some (.int .i64 cap) := by rw [C0.it.cell]; rfl
  have c1 : w1.cell? ⟨b0, 1, none⟩ = some (.slice sa ln sc) := by rw [C0.it.cell]; rfl
  have HB : Aside ((iv (l.take m)).length * 8 ≤ 140737488355328) := ⟨by rw [iv_length, HMT.it]; omega⟩
  have H63 : Aside ((iv (l.take m)).length ≤ maxLen) := ⟨by rw [iv_length, HMT.it]; unfold maxLen; omega⟩
  have e2 : ∀ o, (w1.alloc o).drew.cell? ⟨b0, 0, none⟩ = some (.int .i64 cap) ∧ (w1.alloc o).drew.cell? ⟨b0, 1, none⟩ = some (.slice sa ln sc) := fun o => refCells (C0.it.later (S := Nowhere) ((Keeps.refl _ _).alloc o).drew (fun x => x))
  have E2 : Aside _ := ⟨e2⟩
  clear e2
  go_region_held_law (fun w' => w'.cell? ⟨b0, 0, none⟩ = some (.int .i64 cap) ∧ w'.cell? ⟨b0, 1, none⟩ = some (.slice sa ln sc)) (with_reducible first | exact ⟨drew_cell c0, drew_cell c1⟩ | exact d4 | exact d2 | exact E2.it _ | exact refCells (Cells.later (S := Nowhere) C2.it ((Keeps.refl _ _).alloc _) (fun x => x))) (first | (go_at_call 29; refine (RCA.it _).mono ?_; rintro e w2 ⟨rfl, k2⟩; have k12 : Keeps Nowhere w1 w2 := (by with_reducible first | exact ((Keeps.refl _ _).alloc _).drew.trans k2 | exact (Keeps.refl _ _).drew.trans k2); have C2 : Aside _ := ⟨C0.it.later k12 (fun x => x)⟩; have d2 := refCells C2.it) | (refine step_copyRow 12 rfl rfl (.tmp 5) (.tmp 11) 27 rfl 3 (.int .i64 0) 8 Tryd.underlying27 intInfo rfl w (K1.it.trans k12) w1.heap.size (hs1) (owns_keeps (owns_empty w1 3) k2.undrew (fun _ _ x => x)) (.slice sa m sc) (iv (l.take m)) R1.it N1.it (iv_one _) HB.it H63.it rfl rfl ?_; intro v4 w4 o4 k4 kk4; have d4 := refCells ((C2.it).later k4.it (by have := C0.it.lt; have := k12.size; omega)); have RF : Aside (ReadsOff (fun k => k < w.heap.size) w4 v4 (iv (l.take m)) ∧ NilOk v4) := ⟨(owns_reads o4.it).1.mono (fun k h _ => Nat.lt_of_lt_of_le h (hs1)), (owns_reads o4.it).2⟩) | (refine step_copyRow 12 rfl rfl (.tmp 5) (.tmp 11) 27 rfl 3 (.int .i64 0) 8 Tryd.underlying27 intInfo rfl w ((K1.it.trans k12).alloc _) w2.heap.size (Nat.le_trans hs1 k12.size) (owns_empty w2 3) (.slice sa m sc) (iv (l.take m)) R1.it N1.it (iv_one _) HB.it H63.it rfl rfl ?_; intro v4 w4 o4 k4 kk4; have d4 := refCells ((C2.it.later (S := Nowhere) ((Keeps.refl _ _).alloc _) (fun x => x)).later k4.it (by have := C0.it.lt; have := k12.size; omega)); have RF : Aside (ReadsOff (fun k => k < w.heap.size) w4 v4 (iv (l.take m)) ∧ NilOk v4) := ⟨(owns_reads o4.it).1.mono (fun k h _ => Nat.lt_of_lt_of_le h (Nat.le_trans hs1 k12.size)), (owns_reads o4.it).2⟩))
  all_goals
    go_wp2
    go_ret
    exact ⟨_, rfl, RF.it.1, RF.it.2, kk4.it⟩
set_option maxHeartbeats 2000000 in
set_option maxRecDepth 100000 in
theorem refDrop_ok (w : World) (cap : Nat) (sv : Value) (l : List Int) (hs : ReadsOff Nowhere w sv (iv l)) (hsn : NilOk sv) (hl : l.length ≤ 2147483647) (n : Int) :
    Calls Tryd.prog 14 #[.agg #[.int .i64 cap, sv], .int .i64 n] w fun e w' => ∃ v', e = .returned (.tuple #[.agg #[.int .i64 cap, v'], .int .i64 (Nat.min n.toNat l.length : Nat)]) ∧ ReadsOff (fun k => k < w.heap.size) w' v' (iv (l.drop n.toNat)) ∧ NilOk v' ∧ Keeps Nowhere w w' := by
  obtain ⟨sa, sc, rfl, hsl, hsc⟩ := id hs
  obtain ⟨m, hm⟩ : ∃ m, m = Nat.min n.toNat l.length := ⟨_, rfl⟩
  have hml : m ≤ l.length := by rw [hm]; exact Nat.min_le_right _ _
  have edrop : l.drop n.toNat = l.drop m := by
    rw [hm]; simp only [Nat.min_def]; split
    · rfl
    · rw [List.drop_length, List.drop_eq_nil_of_le (by omega)]
  rw [edrop, ← hm]
  have RC := refCount_ok (cap := cap) (a := sa) (c := sc) (l := l.length) (n := n) (m := m) (hm := hm) (hl := hl)
  have hrow : ∃ sb, ReadsOff Nowhere w (.slice sb (l.length - m) (sc - m)) (iv (l.drop m)) ∧ NilOk (.slice sb (l.length - m) (sc - m)) ∧ ((sa = none ∧ m = 0 ∧ sc = 0 ∧ sb = none) ∨ ∃ ad, sa = some ad ∧ sb = if sc = m then some ad else some (ad.add m)) := by
    cases sa with
    | none =>
      obtain rfl := hsn _ _ rfl
      rw [iv_length] at hsl
      obtain rfl : m = 0 := by omega
      refine ⟨none, ?_, fun _ _ e => by injection e with _ _ e; exact e.symm, .inl ⟨rfl, rfl, rfl, rfl⟩⟩
      simpa [iv_length] using hs
    | some ad =>
      have h1 := hs.drop m (by rw [iv_length]; exact hml)
      rw [iv_drop, iv_length] at h1
      refine ⟨_, h1, fun a b e => ?_, .inr ⟨ad, rfl, rfl⟩⟩
      injection e with e1
      split at e1 <;> cases e1
  obtain ⟨sb, r1, n1, hsb⟩ := hrow
  rw [iv_length] at hsl ⊢
  have hmt : (iv (l.drop m)).length ≤ 2147483647 := by rw [iv_length, List.length_drop]; omega
  have HB : Aside ((iv (l.drop m)).length * 8 ≤ 140737488355328) := ⟨by omega⟩
  have H63 : Aside ((iv (l.drop m)).length ≤ maxLen) := ⟨by unfold maxLen; omega⟩
  obtain ⟨ln, hln⟩ : ∃ ln, ln = l.length := ⟨_, rfl⟩
  rw [← hln] at hl hsl hml RC r1 n1 ⊢
  have R1 : Aside _ := ⟨r1⟩
  have N1 : Aside _ := ⟨n1⟩
  have RCA : Aside _ := ⟨RC⟩
  have hmi : (m : Int) ≤ ln := by omega
  have hls : ln ≤ sc := hsl
  have hmsc : m ≤ sc := by omega
  clear hs hsn hsc hm edrop RC r1 n1 hln hmt
  go_enter Tryd.func14, Tryd.ntmps14
  go_upto_region 1 with fail
  obtain ⟨w1, hw1⟩ : ∃ w1, w1 = (w.alloc (.cells [.int .i64 cap, .slice sa ln sc].toArray 32)).alloc (.cells [.int .i64 0, .slice none 0 0].toArray 32) := ⟨_, rfl⟩
  have ew : (w.alloc (.cells #[.int .i64 cap, .slice sa ln sc] 32)).alloc (.cells #[.int .i64 0, .slice none 0 0] 32) = w1 := hw1.symm
  rw [ew]
  have K1 : Aside (Keeps Nowhere w w1) := ⟨by rw [hw1]; exact ((Keeps.refl _ _).alloc _).alloc _⟩
  obtain ⟨b0, hb0⟩ : ∃ b0, b0 = w.heap.size := ⟨_, rfl⟩
  have C0 : Aside (Cells w1 b0 32 [.int .i64 cap, .slice sa ln sc]) := ⟨by rw [hw1, hb0]; exact (Cells.new w _ _).later (S := Nowhere) ((Keeps.refl _ _).alloc _) (fun x => x)⟩
  have C1 : Aside (Cells w1 (b0 + 1) 32 [.int .i64 0, .slice none 0 0]) := ⟨by
    have h := Cells.new (w.alloc (.cells [.int .i64 cap, .slice sa ln sc].toArray 32)) 32 [.int .i64 0, .slice none 0 0]
    rw [show (w.alloc (.cells [.int .i64 cap, .slice sa ln sc].toArray 32)).heap.size = b0 + 1 by rw [hb0]; simp] at h
    rw [hw1]; exact h⟩
  have HB0 : Aside _ := ⟨hb0⟩
  rw [← hb0]
  clear ew hw1 hb0
  have c00 : w1.cell? ⟨b0, 0, none⟩ = some (.int .i64 cap) := by rw [C0.it.cell]; rfl
  have c01 : w1.cell? ⟨b0, 1, none⟩ = some (.slice sa ln sc) := by rw [C0.it.cell]; rfl
  go_wp2_with fail
  refine (RCA.it w1).mono ?_
  rintro e w2 ⟨rfl, k2⟩
  have K2 : Aside _ := ⟨K1.it.trans k2⟩
  have D0 : Aside _ := ⟨C0.it.later k2 (fun x => x)⟩
  have D1 : Aside _ := ⟨C1.it.later k2 (fun x => x)⟩
  clear k2 C0 C1 K1 c00 c01 RCA
  have c01 : w2.cell? ⟨b0, 1, none⟩ = some (.slice sa ln sc) := by rw [D0.it.cell]; rfl
  have hb0 : b0 < w2.heap.size := D0.it.lt
  have hb1 : b0 + 1 < w2.heap.size := D1.it.lt
  have k3 : Aside (Keeps Nowhere w (w2.alloc (.cells #[] 3))) := ⟨K2.it.alloc _⟩
  have hsz : w.heap.size ≤ w2.heap.size := K2.it.size
  have hbk : w.heap.size ≤ b0 := by have := HB0.it; omega
  have fin : ∀ w5 p5 q5 r5, Aside (w5.ownsRow w2.heap.size 3 1 (.slice p5 q5 r5) (iv (l.drop m)).length (iv (l.drop m))) → Aside (Keeps (fun k => k = w2.heap.size) (w2.alloc (.cells #[] 3)) w5) → Aside (Keeps Nowhere w w5) →
      ∀ w9, w9 = ((w5.setCell ⟨b0, 1, none⟩ (.slice p5 q5 r5)).setCell ⟨b0 + 1, 0, none⟩ (.int .i64 cap)).setCell ⟨b0 + 1, 1, none⟩ (.slice p5 q5 r5) →
      w9.cell? ⟨b0 + 1, 0, none⟩ = some (.int .i64 cap) ∧ w9.cell? ⟨b0 + 1, 1, none⟩ = some (.slice p5 q5 r5) ∧ ReadsOff (fun k => k < w.heap.size) w9 (.slice p5 q5 r5) (iv (l.drop m)) ∧ NilOk (.slice p5 q5 r5) ∧ Keeps Nowhere w w9 := by
    intro w5 p5 q5 r5 o5 k5 kk5 w9 hw9
    have e1 := (D1.it.later (S := Nowhere) ((Keeps.refl _ _).alloc _) (fun x => x)).later k5.it (by omega)
    have e9 : Cells w9 (b0 + 1) 32 [.int .i64 cap, .slice p5 q5 r5] := by
      rw [hw9]
      exact ((e1.setOther _ _ (by show b0 + 1 ≠ b0; omega)).setCell 0 _).setCell 1 _
    have k9 : Keeps (fun k => k = b0 ∨ k = b0 + 1) w5 w9 := by
      rw [hw9]
      exact (((Keeps.refl _ _).setCell ⟨b0, 1, none⟩ _ (fun _ => .inl rfl)).setCell ⟨b0 + 1, 0, none⟩ _ (fun _ => .inr rfl)).setCell ⟨b0 + 1, 1, none⟩ _ (fun _ => .inr rfl)
    have RR := owns_reads o5.it
    refine ⟨by rw [e9.cell]; rfl, by rw [e9.cell]; rfl, ?_, RR.2, ?_⟩
    · have h1 := (RR.1.mono (S' := fun k => k = b0 ∨ k = b0 + 1 ∨ k < w.heap.size) (by rintro k (h | h | h) _ <;> omega))
      refine (h1.later (k9.mono (S' := fun k => k = b0 ∨ k = b0 + 1 ∨ k < w.heap.size) (by rintro k (h | h) _ <;> simp [h]))).mono (fun k h _ => .inl (.inr (.inr h)))
    · exact kk5.it.next k9 (by rintro k (h | h) hk <;> omega)
  have FIN : Aside _ := ⟨fin⟩
  have cells5 : ∀ w5, Aside (Keeps (fun k => k = w2.heap.size) (w2.alloc (.cells #[] 3)) w5) → (w5.cell? ⟨b0, 0, none⟩ = some (.int .i64 cap) ∧ w5.cell? ⟨b0, 1, none⟩ = some (.slice sa ln sc) ∧ w5.frozen? ⟨b0, 1, none⟩ = false) ∧ w5.cell? ⟨b0 + 1, 0, none⟩ = some (.int .i64 0) ∧ w5.cell? ⟨b0 + 1, 1, none⟩ = some (.slice none 0 0) ∧ w5.frozen? ⟨b0 + 1, 0, none⟩ = false ∧ w5.frozen? ⟨b0 + 1, 1, none⟩ = false := by
    intro w5 k5
    have e0 := (D0.it.later (S := Nowhere) ((Keeps.refl _ _).alloc _) (fun x => x)).later k5.it (by omega)
    have e1 := (D1.it.later (S := Nowhere) ((Keeps.refl _ _).alloc _) (fun x => x)).later k5.it (by omega)
    exact ⟨⟨(refCells e0).1, (refCells e0).2, e0.frozen 1⟩, (refCells e1).1, (refCells e1).2, e1.frozen 0, e1.frozen 1⟩
  have CELLS : Aside _ := ⟨cells5⟩
  have hown := owns_empty w2 3
  have OWN : Aside _ := ⟨hown⟩
  clear fin cells5 hown D0 D1 K2
  rcases hsb with ⟨rfl, rfl, rfl, rfl⟩ | ⟨ad, rfl, rfl⟩
  · obtain rfl : ln = 0 := by omega
    simp only [Nat.sub_self] at R1 N1
    go_wp2_with (at_builtin; refine wpList_copyRow rfl (.tmp 10) (.tmp 14) 27 rfl 3 (.int .i64 0) 8 Tryd.underlying27 intInfo rfl w k3.it w2.heap.size hsz OWN.it _ _ R1.it N1.it (iv_one _) HB.it H63.it rfl rfl ?_; intro v4 w4 o4 k4 kk4; obtain ⟨p5, q5, r5, hv5⟩ := owns_shape o4.it; subst hv5; obtain ⟨⟨x0, x1, x2⟩, x3, x4, x5, x6⟩ := CELLS.it w4 k4)
    obtain ⟨w9, hw9⟩ : ∃ w9, w9 = ((w4.setCell ⟨b0, 1, none⟩ (.slice p5 q5 r5)).setCell ⟨b0 + 1, 0, none⟩ (.int .i64 cap)).setCell ⟨b0 + 1, 1, none⟩ (.slice p5 q5 r5) := ⟨_, rfl⟩
    rw [← hw9]
    obtain ⟨q0, q1, q2, q3, q4⟩ := FIN.it w4 p5 q5 r5 o4 k4 kk4 w9 hw9
    refine bodyPost_ret (v := .tuple #[.agg #[.int .i64 cap, .slice p5 q5 r5], .int .i64 (((0 : Nat) : Int))]) (by simp [results, Tryd.results14, go_sem, q0, q1]) rfl ?_
    exact ⟨_, rfl, q2, q3, q4⟩
  · go_wp2_with (at_builtin; refine wpList_copyRow rfl (.tmp 10) (.tmp 14) 27 rfl 3 (.int .i64 0) 8 Tryd.underlying27 intInfo rfl w k3.it w2.heap.size hsz OWN.it _ _ R1.it N1.it (iv_one _) HB.it H63.it rfl rfl ?_; intro v4 w4 o4 k4 kk4; obtain ⟨p5, q5, r5, hv5⟩ := owns_shape o4.it; subst hv5; obtain ⟨⟨x0, x1, x2⟩, x3, x4, x5, x6⟩ := CELLS.it w4 k4)
    all_goals
      obtain ⟨w9, hw9⟩ : ∃ w9, w9 = ((w4.setCell ⟨b0, 1, none⟩ (.slice p5 q5 r5)).setCell ⟨b0 + 1, 0, none⟩ (.int .i64 cap)).setCell ⟨b0 + 1, 1, none⟩ (.slice p5 q5 r5) := ⟨_, rfl⟩
      rw [← hw9]
      obtain ⟨q0, q1, q2, q3, q4⟩ := FIN.it w4 p5 q5 r5 o4 k4 kk4 w9 hw9
      refine bodyPost_ret (v := .tuple #[.agg #[.int .i64 cap, .slice p5 q5 r5], .int .i64 ((m : Int))]) (by simp [results, Tryd.results14, go_sem, q0, q1]) rfl ?_
      exact ⟨_, rfl, q2, q3, q4⟩
end Go.Proofs.YtkmijhfimkcoiaaDoor
