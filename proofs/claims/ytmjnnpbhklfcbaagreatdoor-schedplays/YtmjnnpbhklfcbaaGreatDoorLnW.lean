/-
  package lane: Withdraw
-/
import Derived.Test.YtmjnnpbhklfcbaaGreatDoorLnT
namespace Go.Proofs.YtmjnnpbhklfcbaaGreatDoor
open Go.RowKit

variable {A : Nat → Addr} {w w' w0 W W' : World} {own own' : Nat → Nat} {i p fp mb m wb lb j : Nat} {I : Nat → Prop} {F : Int → Nat → Option Nat} {Z : Zs} {fw : Value} {out : Nat × Tk → Bool} {Ex : Nat → World → Prop} {x : Nat × Tk}

structure Wb (W : World) (fb kb sb : Nat) (f : Bool) (kind : Int) (s : Nat) : Prop where
  f : Cells W fb 4 [.bool f]
  k : Cells W kb 32 [.int .i64 kind]
  s : Cells W sb 33 [.int .u32 s]
theorem Wb.later {S : Nat → Prop} {fb kb sb : Nat} {f : Bool} {kind : Int} {s : Nat} (h : Wb W fb kb sb f kind s) (hk : Keeps S W W') (h1 : ¬ S fb) (h2 : ¬ S kb) (h3 : ¬ S sb) : Wb W' fb kb sb f kind s :=
  ⟨h.f.later hk h1, h.k.later hk h2, h.s.later hk h3⟩
theorem Wb.set {fb kb sb : Nat} {f : Bool} {kind : Int} {s : Nat} (h : Wb W fb kb sb f kind s) (g : Bool) : Wb (W.setCell ⟨fb, 0, none⟩ (.bool g)) fb kb sb g kind s :=
  ⟨h.f.setCell 0 (.bool g), h.k.setOther ⟨fb, 0, none⟩ _ (Cells.ne_type h.k h.f (by decide)), h.s.setOther ⟨fb, 0, none⟩ _ (Cells.ne_type h.s h.f (by decide))⟩
set_option maxHeartbeats 1000000 in
theorem withdraw1 (b fb kb sb : Nat) (f : Bool) (kind : Int) (s : Nat) (t : Tk) (hb : Cells W b 35 (tcells t)) (hw : Wb W fb kb sb f kind s) :
    Calls Tryz.prog 75 #[ptr b, ptr fb, ptr kb, ptr sb] W fun e W' => e = .returned (.bool (!f && isT kind s t)) ∧ ∃ n, Aside (W' = (W.drewN n).setCell ⟨fb, 0, none⟩ (.bool (f || (!f && isT kind s t)))) := by
  obtain ⟨b0, b1, b2⟩ := TB.of hb
  have f0 : W.cell? ⟨fb, 0, none⟩ = some (.bool f) := by rw [hw.f.cell]; rfl
  have k0 : W.cell? ⟨kb, 0, none⟩ = some (.int .i64 kind) := by rw [hw.k.cell]; rfl
  have s0 : W.cell? ⟨sb, 0, none⟩ = some (.int .u32 s) := by rw [hw.s.cell]; rfl
  have g0 := hw.f.frozen 0
  clear hb hw
  cases f with
  | true =>
    go_enter Tryz.func75, Tryz.ntmps75
    go_upto_region 1 with fail
    go_quiet (fail)
    go_wp2
    go_ret
    exact ⟨rfl, _, ⟨rfl⟩⟩
  | false =>
    by_cases h1 : t.k = kind
    · by_cases h2 : (t.s : Int) = s
      · have e : Aside (isT kind s t = true) := ⟨isT_iff.2 ⟨h1, by omega⟩⟩
        rw [e.it]
        have e1 : (t.k == kind) = true := by simpa using h1
        have e2 : ((t.s : Int) == s) = true := by simpa using h2
        clear e
        go_enter Tryz.func75, Tryz.ntmps75
        go_upto_region 1 with fail
        go_quiet (fail)
        go_wp2
        go_ret
        exact ⟨rfl, _, ⟨rfl⟩⟩
      · have e : Aside (isT kind s t = false) := ⟨by cases he : isT kind s t with | false => rfl | true => exact absurd (by have := (isT_iff.1 he).2; omega) h2⟩
        rw [e.it]
        have e1 : (t.k == kind) = true := by simpa using h1
        have e2 : ((t.s : Int) == s) = false := by simpa using h2
        clear e
        go_enter Tryz.func75, Tryz.ntmps75
        go_upto_region 1 with fail
        go_quiet (fail)
        go_wp2
        go_ret
        exact ⟨rfl, _, ⟨rfl⟩⟩
    · have e : Aside (isT kind s t = false) := ⟨by cases he : isT kind s t with | false => rfl | true => exact absurd (isT_iff.1 he).1 h1⟩
      rw [e.it]
      have e1 : (t.k == kind) = false := by simpa using h1
      clear e
      go_enter Tryz.func75, Tryz.ntmps75
      go_upto_region 1 with fail
      go_quiet (fail)
      go_wp2
      go_ret
      exact ⟨rfl, _, ⟨rfl⟩⟩

/-- the first of a kind and stream goes -/
def outW (Z : Zs) (kind : Int) (s : Nat) (x : Nat × Tk) : Bool := (Z.find? (fun y => isT kind s y.2)).any (fun y => y.1 == x.1)
def foundW (Z : Zs) (kind : Int) (s : Nat) (j : Nat) : Bool := (Z.take j).any (fun y => isT kind s y.2)
theorem outW_cons (x : Nat × Tk) (Z : Zs) (kind : Int) (s : Nat) (h : ((x :: Z).map (·.1)).Nodup) (y : Nat × Tk) (hy : y ∈ Z) : outW (x :: Z) kind s y = (!isT kind s x.2 && outW Z kind s y) := by
  unfold outW
  rw [List.find?_cons]
  cases hx : isT kind s x.2 with
  | false => simp
  | true =>
    simp only [Option.any_some, Bool.not_true, Bool.false_and]
    cases hc : (x.1 == y.1) with
    | false => rfl
    | true =>
      exact absurd (List.mem_map.2 ⟨y, hy, (by simpa using hc : x.1 = y.1).symm⟩) (List.nodup_cons.1 h).1
theorem outW_at (kind : Int) (s : Nat) (h : (Z.map (·.1)).Nodup) (hx : Z[j]? = some x) : outW Z kind s x = (!foundW Z kind s j && isT kind s x.2) := by
  induction Z generalizing j with
  | nil => simp at hx
  | cons z Z ih =>
    cases j with
    | zero =>
      simp only [List.getElem?_cons_zero, Option.some.injEq] at hx
      subst hx
      unfold outW foundW
      rw [List.find?_cons]
      cases hz : isT kind s z.2 with
      | true => simp
      | false =>
        simp only [List.take_zero, List.any_nil, Bool.not_false, Bool.and_false]
        cases hf : Z.find? (fun y => isT kind s y.2) with
        | none => rfl
        | some y =>
          simp only [Option.any_some]
          cases hc : (y.1 == z.1) with
          | false => rfl
          | true => exact absurd (List.mem_map.2 ⟨y, List.mem_of_find?_eq_some hf, by simpa using hc⟩) (List.nodup_cons.1 h).1
    | succ j =>
      rw [List.getElem?_cons_succ] at hx
      rw [outW_cons z Z kind s h x (List.mem_of_getElem? hx), ih (List.nodup_cons.1 h).2 hx]
      unfold foundW
      rw [List.take_succ_cons, List.any_cons, Bool.not_or, Bool.and_assoc]
theorem foundW_next (kind : Int) (s : Nat) (hx : Z[j]? = some x) : foundW Z kind s (j + 1) = (foundW Z kind s j || (!foundW Z kind s j && isT kind s x.2)) := by
  unfold foundW
  rw [List.take_add_one, hx, List.any_append]
  cases (Z.take j).any (fun y => isT kind s y.2) <;> simp
theorem filter_outW (kind : Int) (s : Nat) (h : (Z.map (·.1)).Nodup) : (Z.filter (fun x => !outW Z kind s x)).map (·.2) = (Z.map (·.2)).eraseP (isT kind s) ∧ Z.countP (outW Z kind s) = if (Z.map (·.2)).any (isT kind s) then 1 else 0 := by
  induction Z with
  | nil => exact ⟨rfl, rfl⟩
  | cons z Z ih =>
    obtain ⟨i1, i2⟩ := ih (List.nodup_cons.1 h).2
    have ez : outW (z :: Z) kind s z = isT kind s z.2 := by
      have := outW_at (Z := z :: Z) (j := 0) kind s h rfl
      simpa [foundW] using this
    rw [List.filter_cons, List.countP_cons, List.map_cons, List.eraseP_cons, ez]
    have e1 : Z.filter (fun x => !outW (z :: Z) kind s x) = Z.filter (fun x => !(!isT kind s z.2 && outW Z kind s x)) := List.filter_congr fun y hy => by rw [outW_cons z Z kind s h y hy]
    have e2 : Z.countP (outW (z :: Z) kind s) = Z.countP (fun x => !isT kind s z.2 && outW Z kind s x) := List.countP_congr fun y hy => by rw [outW_cons z Z kind s h y hy]
    rw [e1, e2]
    cases hz : isT kind s z.2 with
    | true =>
      simp [hz]
      rw [List.filter_eq_self.2 (fun _ _ => rfl)]
    | false =>
      simp only [Bool.not_false, Bool.true_and, if_true, List.map_cons, i1, i2, List.any_cons, hz, Bool.false_or, cond_false]
      simp

set_option maxHeartbeats 1000000 in
theorem cbW (fb kb sb : Nat) (kind : Int) (s : Nat) (R : Rm p fp mb m wb lb (.func (.func 75) #[] #[ptr fb, ptr kb, ptr sb]) Z (outW Z kind s) (fun j W => Wb W fb kb sb (foundW Z kind s j) kind s) j W) (hz : ZOk Z) (hx : Z[j]? = some x) :
    Calls Tryz.prog 87 #[ptr x.1, ptr wb, ptr lb] W fun e W' => e = .returned (.bool (outW Z kind s x)) ∧ Aside (Rm p fp mb m wb lb (.func (.func 75) #[] #[ptr fb, ptr kb, ptr sb]) Z (outW Z kind s) (fun j W => Wb W fb kb sb (foundW Z kind s j) kind s) (j + 1) W') ∧ Aside (Keeps (fun k => k = mb ∨ k = fb) W W') := by
  obtain ⟨F, mF, hH⟩ := R.map
  have hm := List.mem_of_getElem? hx
  have c1 : W.cell? ⟨wb, 0, none⟩ = some (.func (.func 75) #[] #[ptr fb, ptr kb, ptr sb]) := by rw [R.cw.cell]; rfl
  have CB := Aside.mk (withdraw1 x.1 fb kb sb _ kind s x.2 (R.tks x hm) R.ex)
  rw [← outW_at kind s hz.nodup hx] at CB
  have hfn : Aside (foundW Z kind s (j + 1) = (foundW Z kind s j || outW Z kind s x)) := ⟨by rw [foundW_next kind s hx, outW_at kind s hz.nodup hx]⟩
  rw [← hfn.it] at CB
  have XX : Aside (∀ n, Keeps (fun k => k = fb) W ((W.drewN n).setCell ⟨fb, 0, none⟩ (.bool (foundW Z kind s (j + 1))))) := ⟨fun n => ((Keeps.refl (fun k => k = fb) W).drewN n).setCell ⟨fb, 0, none⟩ _ (fun _ => rfl)⟩
  have WB : Aside (∀ n, Wb ((W.drewN n).setCell ⟨fb, 0, none⟩ (.bool (foundW Z kind s (j + 1)))) fb kb sb (foundW Z kind s (j + 1)) kind s) := ⟨fun n => Wb.set (W := W.drewN n) ⟨R.ex.f.drewN n, R.ex.k.drewN n, R.ex.s.drewN n⟩ _⟩
  have n1 : p ≠ fb := Cells.ne_type R.box R.ex.f (by decide)
  have n2 : ∀ y ∈ Z, y.1 ≠ fb := fun y hy => Cells.ne_type (R.tks y hy) R.ex.f (by decide)
  have n3 : mb ≠ fb := (mF.ne_cells R.ex.f).symm
  have n4 : wb ≠ fb := Cells.ne_type R.cw R.ex.f (by decide)
  have n5 : lb ≠ fb := Cells.ne_type R.cl R.ex.f (by decide)
  have NN : Aside (∀ n, ∃ W1, W1 = (W.drewN n).setCell ⟨fb, 0, none⟩ (.bool (foundW Z kind s (j + 1))) ∧ Keeps (fun k => k = fb) W W1 ∧ Cells W1 p 90 [ptr fp, .map (some mb)] ∧ (∀ y ∈ Z, Cells W1 y.1 35 (tcells y.2)) ∧ MapF W1 mb m F ∧ Cells W1 wb 138 [.func (.func 75) #[] #[ptr fb, ptr kb, ptr sb]] ∧ Cells W1 lb 53 [ptr p] ∧ Wb W1 fb kb sb (foundW Z kind s (j + 1)) kind s) :=
    ⟨fun n => ⟨_, rfl, XX.it n, R.box.later (XX.it n) n1, fun y hy => (R.tks y hy).later (XX.it n) (n2 y hy), mF.later (XX.it n) n3, R.cw.later (XX.it n) n4, R.cl.later (XX.it n) n5, WB.it n⟩⟩
  have hw := (hz.may x hm).2
  have HZ := Aside.mk hw
  clear R n1 n2 n3 n4 n5 XX WB mF hw
  go_enter Tryz.func87, Tryz.ntmps87
  go_upto_region 2 with (first | (go_at_call 75; refine CB.it.mono ?_; rintro e w1 ⟨rfl, n, hw1⟩) | fail)
  obtain ⟨W1, e1, k1, bx, tk, mp, cw, cl, wx⟩ := NN.it n
  obtain rfl : w1 = W1 := hw1.it.trans e1.symm
  clear hw1
  have p1 : w1.cell? ⟨p, 1, none⟩ = some (.map (some mb)) := by rw [bx.cell]; rfl
  have d1 : w1.cell? ⟨lb, 0, none⟩ = some (ptr p) := by rw [cl.cell]; rfl
  have LV := Aside.mk (leave_at p x.1 mb m x.2 HZ.it p1 (TB.of (tk x hm)) mp)
  have KK := Aside.mk k1
  have EX := Aside.mk (And.intro bx (And.intro tk (And.intro mp (And.intro cw (And.intro cl wx)))))
  clear e1 NN CB k1 bx tk mp cw cl wx p1 c1
  cases hb : outW Z kind s x with
  | true =>
    have HB := Aside.mk hb
    clear hb
    go_wp2_with (first | (go_at_call 66; refine LV.it.mono ?_; rintro e w2 ⟨rfl, m2, k2⟩) | fail)
    go_ret
    obtain ⟨bx, tk, mp, cw, cl, wx⟩ := EX.it
    have r1 : Rm p fp mb m wb lb (.func (.func 75) #[] #[ptr fb, ptr kb, ptr sb]) Z (outW Z kind s) (fun j W => Wb W fb kb sb (foundW Z kind s j) kind s) (j + 1) w2 :=
      ⟨bx.later k2 (mp.ne_cells bx), fun y hy => (tk y hy).later k2 (mp.ne_cells (tk y hy)), ⟨_, m2, holds2_go hH hx HB.it⟩, cw.later k2 (mp.ne_cells cw), cl.later k2 (mp.ne_cells cl), wx.later k2 (mp.ne_cells wx.f) (mp.ne_cells wx.k) (mp.ne_cells wx.s)⟩
    exact ⟨by rw [HB.it]; rfl, ⟨r1⟩, ⟨(KK.it.mono (fun k e _ => .inr e)).trans (k2.mono (fun k e _ => .inl e))⟩⟩
  | false =>
    have HB := Aside.mk hb
    clear hb
    go_wp2
    go_ret
    obtain ⟨bx, tk, mp, cw, cl, wx⟩ := EX.it
    exact ⟨by rw [HB.it]; rfl, ⟨bx, tk, ⟨_, mp, holds2_stay hH hx HB.it⟩, cw, cl, wx⟩, ⟨KK.it.mono (fun k e _ => .inr e)⟩⟩
theorem withdraw_at (h : LnO own i w p Z m) (hm : m ≤ 8796093022208) (kind : Int) (s : Nat) :
    Calls Tryz.prog 48 #[ptr p, .int .i64 kind, .int .u32 s] w fun e w' => ∃ own' Z', e = .returned (.bool ((Z.map (·.2)).any (isT kind s))) ∧ Aside (LnO own' i w' p Z' m ∧ Z'.map (·.2) = (Z.map (·.2)).eraseP (isT kind s) ∧ Sn (In4 i) own w own' w') := by
  obtain ⟨fp, mb, F, h⟩ := h
  obtain ⟨W0, hW0⟩ : ∃ W0, W0 = ((w.alloc (.cells #[.int .i64 kind] 32)).alloc (.cells #[.int .u32 s] 33)).alloc (.cells #[.bool false] 4) := ⟨_, rfl⟩
  have k0 : Keeps Nowhere w W0 := by rw [hW0]; exact (((Keeps.refl _ _).alloc _).alloc _).alloc _
  have C0 : Wb W0 (w.heap.size + 1 + 1) w.heap.size (w.heap.size + 1) false kind s := by
    have c1 := Cells.new w 32 [.int .i64 kind]
    have c2 := Cells.new (w.alloc (.cells #[.int .i64 kind] 32)) 33 [.int .u32 s]
    have c3 := Cells.new ((w.alloc (.cells #[.int .i64 kind] 32)).alloc (.cells #[.int .u32 s] 33)) 4 [.bool false]
    rw [World.size_alloc] at c2 c3
    rw [World.size_alloc] at c3
    rw [hW0]
    exact ⟨c3, c1.later (S := Nowhere) (((Keeps.refl _ _).alloc _).alloc _) (fun x => x), c2.later (S := Nowhere) ((Keeps.refl _ _).alloc _) (fun x => x)⟩
  have hsz : W0.heap.size = w.heap.size + 3 := by rw [hW0, World.size_alloc, World.size_alloc, World.size_alloc]
  have H0 := h.sn (I := fun _ => False) (Sn.quiet k0 (i + 4)) (fun _ _ x => x)
  have e0 : foundW Z kind s 0 = false := rfl
  have RM := Aside.mk (remove_gen (w := W0) H0 hm (.func 75) #[] #[ptr (w.heap.size + 1 + 1), ptr w.heap.size, ptr (w.heap.size + 1)] (outW Z kind s) (fun j W => Wb W (w.heap.size + 1 + 1) w.heap.size (w.heap.size + 1) (foundW Z kind s j) kind s) (fun k => k = w.heap.size + 1 + 1) (fun k e => ⟨by omega, by rw [e, give_new (by omega)]; omega⟩)
    (fun W k => C0.later k (fun x => x) (fun x => x) (fun x => x)) (fun _ W W' hc hk => hc.later hk (by omega) (by omega) (by omega))
    (fun j x W hx R => (cbW _ _ _ kind s R h.ok hx).mono (fun e W' ⟨a, b, c⟩ => ⟨a, b, c⟩)))
  obtain ⟨f1, f2⟩ := filter_outW (Z := Z) kind s h.ok.nodup
  have F1 := Aside.mk f1
  have K0 := Aside.mk k0
  clear h H0 C0 k0 f1 hsz e0
  cases hb : (Z.map (·.2)).any (isT kind s) with
  | true =>
    rw [hb, if_pos rfl] at f2
    rw [f2] at RM
    clear f2 hb
    go_enter Tryz.func48, Tryz.ntmps48
    go_upto_region 2 with fail
    rw [← hW0]
    clear hW0
    go_wp2_with (first | (go_at_call 74; refine RM.it.mono ?_; rintro e w2 ⟨own2, rfl, r2⟩) | fail)
    go_ret
    exact ⟨own2, _, rfl, ⟨r2.it.1, F1.it, sn_of4 K0.it r2.it.2.1 r2.it.2.2 (fun k e => by omega)⟩⟩
  | false =>
    rw [hb, if_neg (by simp)] at f2
    rw [f2] at RM
    clear f2 hb
    go_enter Tryz.func48, Tryz.ntmps48
    go_upto_region 2 with fail
    rw [← hW0]
    clear hW0
    go_wp2_with (first | (go_at_call 74; refine RM.it.mono ?_; rintro e w2 ⟨own2, rfl, r2⟩) | fail)
    go_ret
    exact ⟨own2, _, rfl, ⟨r2.it.1, F1.it, sn_of4 K0.it r2.it.2.1 r2.it.2.2 (fun k e => by omega)⟩⟩
end Go.Proofs.YtmjnnpbhklfcbaaGreatDoor
