/-
  package lane: Withdraw
-/
import Derived.Test.YtialmmobkmdfpaaDoorLnT
namespace Go.Proofs.YtialmmobkmdfpaaDoor
open Go.RowKit

variable {A : Nat → Addr} {w w' w0 W W' : World} {own own' : Nat → Nat} {i p fp mb m wb lb j : Nat} {I : Nat → Prop} {F : Int → Nat → Option Nat} {Z : Zs} {fw : Value} {out : Nat × Tk → Bool} {Ex : Nat → World → Prop} {x : Nat × Tk}

structure Wb (W : World) (fb kb sb : Nat) (f : Bool) (kind : Int) (s : Nat) : Prop where
  f : Cells W fb 4 [.bool f]
  k : Cells W kb 27 [.int .i64 kind]
  s : Cells W sb 28 [.int .u32 s]
theorem Wb.later {S : Nat → Prop} {fb kb sb : Nat} {f : Bool} {kind : Int} {s : Nat} (h : Wb W fb kb sb f kind s) (hk : Keeps S W W') (h1 : ¬ S fb) (h2 : ¬ S kb) (h3 : ¬ S sb) : Wb W' fb kb sb f kind s :=
  ⟨h.f.later hk h1, h.k.later hk h2, h.s.later hk h3⟩
theorem Wb.set {fb kb sb : Nat} {f : Bool} {kind : Int} {s : Nat} (h : Wb W fb kb sb f kind s) (g : Bool) : Wb (W.setCell ⟨fb, 0, none⟩ (.bool g)) fb kb sb g kind s :=
  ⟨h.f.setCell 0 (.bool g), h.k.setOther ⟨fb, 0, none⟩ _ (Cells.ne_type h.k h.f (by decide)), h.s.setOther ⟨fb, 0, none⟩ _ (Cells.ne_type h.s h.f (by decide))⟩
set_option maxHeartbeats 1000000 in
theorem withdraw1 (b fb kb sb : Nat) (f : Bool) (kind : Int) (s : Nat) (t : Tk) (hb : Cells W b 30 (tcells t)) (hw : Wb W fb kb sb f kind s) :
    Calls Tryd.prog 41 #[ptr b, ptr fb, ptr kb, ptr sb] W fun e W' => e = .returned (.bool (!f && isT kind s t)) ∧ ∃ n, Aside (W' = (W.drewN n).setCell ⟨fb, 0, none⟩ (.bool (f || (!f && isT kind s t)))) := by
  obtain ⟨b0, b1, b2⟩ := TB.of hb
  have f0 : W.cell? ⟨fb, 0, none⟩ = some (.bool f) := by rw [hw.f.cell]; rfl
  have k0 : W.cell? ⟨kb, 0, none⟩ = some (.int .i64 kind) := by rw [hw.k.cell]; rfl
  have s0 : W.cell? ⟨sb, 0, none⟩ = some (.int .u32 s) := by rw [hw.s.cell]; rfl
  have g0 := hw.f.frozen 0
  clear hb hw
  cases f with
  | true =>
    go_enter Tryd.func41, Tryd.ntmps41
    go_upto_region 1 with fail
    go_quiet (fail)
    go_wp2
    go_ret
    exact ⟨rfl, _, ⟨rfl⟩⟩
  | false =>
    by_cases h1 : t.k = kind
    · by_cases h2 : (t.s : Int) = s
      · have e : Aside (isT kind s t = true) := ⟨isT_iff.2 ⟨h1, by omega⟩⟩
        rw [e.it]
        have e1 : (t.k == kind) = true := by simpa using h1
        have e2 : ((t.s : Int) == s) = true := by simpa using h2
        clear e
        go_enter Tryd.func41, Tryd.ntmps41
        go_upto_region 1 with fail
        go_quiet (fail)
        go_wp2
        go_ret
        exact ⟨rfl, _, ⟨rfl⟩⟩
      · have e : Aside (isT kind s t = false) := ⟨by cases he : isT kind s t with | false => rfl | true => exact absurd (by have := (isT_iff.1 he).2; omega) h2⟩
        rw [e.it]
        have e1 : (t.k == kind) = true := by simpa using h1
        have e2 : ((t.s : Int) == s) = false := by simpa using h2
        clear e
        go_enter Tryd.func41, Tryd.ntmps41
        go_upto_region 1 with fail
        go_quiet (fail)
        go_wp2
        go_ret
        exact ⟨rfl, _, ⟨rfl⟩⟩
    · have e : Aside (isT kind s t = false) := ⟨by cases he : isT kind s t with | false => rfl | true => exact absurd (isT_iff.1 he).1 h1⟩
      rw [e.it]
      have e1 : (t.k == kind) = false := by simpa using h1
      clear e
      go_enter Tryd.func41, Tryd.ntmps41
      go_upto_region 1 with fail
      go_quiet (fail)
      go_wp2
      go_ret
      exact ⟨rfl, _, ⟨rfl⟩⟩

/-- the first of a kind and stream goes -/
def outW (Z : Zs) (kind : Int) (s : Nat) (x : Nat × Tk) : Bool := (Z.find? (fun y => isT kind s y.2)).any (fun y => y.1 == x.1)
def foundW (Z : Zs) (kind : Int) (s : Nat) (j : Nat) : Bool := (Z.take j).any (fun y => isT kind s y.2)
theorem outW_cons (x : Nat × Tk) (Z : Zs) (kind : Int) (s : Nat) (h : ((x :: Z).map (·.1)).Nodup) (y : Nat × Tk) (hy : y ∈ Z) : outW (x :: Z) kind s y = (!isT kind s x.2 && outW Z kind s y) := by
  unfold outW
  rw [List.find?_cons]
  cases hx : isT kind s x.2 with
  | false => simp
  | true =>
    simp only [Option.any_some, Bool.not_true, Bool.false_and]
    cases hc : (x.1 == y.1) with
    | false => rfl
    | true =>
      exact absurd (List.mem_map.2 ⟨y, hy, (by simpa using hc : x.1 = y.1).symm⟩) (List.nodup_cons.1 h).1
theorem outW_at (kind : Int) (s : Nat) (h : (Z.map (·.1)).Nodup) (hx : Z[j]? = some x) : outW Z kind s x = (!foundW Z kind s j && isT kind s x.2) := by
  induction Z generalizing j with
  | nil => simp at hx
  | cons z Z ih =>
    cases j with
    | zero =>
      simp only [List.getElem?_cons_zero, Option.some.injEq] at hx
      subst hx
      unfold outW foundW
      rw [List.find?_cons]
      cases hz : isT kind s z.2 with
      | true => simp
      | false =>
        simp only [List.take_zero, List.any_nil, Bool.not_false, Bool.and_false]
        cases hf : Z.find? (fun y => isT kind s y.2) with
        | none => rfl
        | some y =>
          simp only [Option.any_some]
          cases hc : (y.1 == z.1) with
          | false => rfl
          | true => exact absurd (List.mem_map.2 ⟨y, List.mem_of_find?_eq_some hf, by simpa using hc⟩) (List.nodup_cons.1 h).1
    | succ j =>
      rw [List.getElem?_cons_succ] at hx
      rw [outW_cons z Z kind s h x (List.mem_of_getElem? hx), ih (List.nodup_cons.1 h).2 hx]
      unfold foundW
      rw [List.take_succ_cons, List.any_cons, Bool.not_or, Bool.and_assoc]
theorem foundW_next (kind : Int) (s : Nat) (hx : Z[j]? = some x) : foundW Z kind s (j + 1) = (foundW Z kind s j || (!foundW Z kind s j && isT kind s x.2)) := by
  unfold foundW
  rw [List.take_add_one, hx, List.any_append]
  cases (Z.take j).any (fun y => isT kind s y.2) <;> simp
theorem filter_outW (kind : Int) (s : Nat) (h : (Z.map (·.1)).Nodup) : (Z.filter (fun x => !outW Z kind s x)).map (·.2) = (Z.map (·.2)).eraseP (isT kind s) ∧ Z.countP (outW Z kind s) = if (Z.map (·.2)).any (isT kind s) then 1 else 0 := by
  induction Z with
  | nil => exact ⟨rfl, rfl⟩
  | cons z Z ih =>
    obtain ⟨i1, i2⟩ := ih (List.nodup_cons.1 h).2
    have ez : outW (z :: Z) kind s z = isT kind s z.2 := by
      have := outW_at (Z := z :: Z) (j := 0) kind s h rfl
      simpa [foundW] using this
    rw [List.filter_cons, List.countP_cons, List.map_cons, List.eraseP_cons, ez]
    have e1 : Z.filter (fun x => !outW (z :: Z) kind s x) = Z.filter (fun x => !(!isT kind s z.2 && outW Z kind s x)) := List.filter_congr fun y hy => by rw [outW_cons z Z kind s h y hy]
    have e2 : Z.countP (outW (z :: Z) kind s) = Z.countP (fun x => !isT kind s z.2 && outW Z kind s x) := List.countP_congr fun y hy => by rw [outW_cons z Z kind s h y hy]
    rw [e1, e2]
    cases hz : isT kind s z.2 with
    | true =>
      simp [hz]
      rw [List.filter_eq_self.2 (fun _ _ => rfl)]
    | false =>
      simp only [Bool.not_false, Bool.true_and, if_true, List.map_cons, i1, i2, List.any_cons, hz, Bool.false_or, cond_false]
      simp

set_option maxHeartbeats 1000000 in
theorem cbW (fb kb sb : Nat) (kind : Int) (s : Nat) (R : Rm p fp mb m wb lb (.func (.func 41) #[] #[ptr fb, ptr kb, ptr sb]) Z (outW Z kind s) (fun j W => Wb W fb kb sb (foundW Z kind s j) kind s) j W) (hz : ZOk Z) (hx : Z[j]? = some x) :
    Calls Tryd.prog 61 #[ptr x.1, ptr wb, ptr lb] W fun e W' => e = .returned (.bool (outW Z kind s x)) ∧ Aside (Rm p fp mb m wb lb (.func (.func 41) #[] #[ptr fb, ptr kb, ptr sb]) Z (outW Z kind s) (fun j W => Wb W fb kb sb (foundW Z kind s j) kind s) (j + 1) W') ∧ Aside (Keeps (fun k => k = mb ∨ k = fb) W W') := by
  obtain ⟨F, mF, hH⟩ := R.map
  have hm := List.mem_of_getElem? hx
  have c1 : W.cell? ⟨wb, 0, none⟩ = some (.func (.func 41) #[] #[ptr fb, ptr kb, ptr sb]) := by rw [R.cw.cell]; rfl
  have CB := Aside.mk (withdraw1 x.1 fb kb sb _ kind s x.2 (R.tks x hm) R.ex)
  rw [← outW_at kind s hz.nodup hx] at CB
  have hfn : Aside (foundW Z kind s (j + 1) = (foundW Z kind s j || outW Z kind s x)) := ⟨by rw [foundW_next kind s hx, outW_at kind s hz.nodup hx]⟩
  rw [← hfn.it] at CB
  have XX : Aside (∀ n, Keeps (fun k => k = fb) W ((W.drewN n).setCell ⟨fb, 0, none⟩ (.bool (foundW Z kind s (j + 1))))) := ⟨fun n => ((Keeps.refl (fun k => k = fb) W).drewN n).setCell ⟨fb, 0, none⟩ _ (fun _ => rfl)⟩
  have WB : Aside (∀ n, Wb ((W.drewN n).setCell ⟨fb, 0, none⟩ (.bool (foundW Z kind s (j + 1)))) fb kb sb (foundW Z kind s (j + 1)) kind s) := ⟨fun n => Wb.set (W := W.drewN n) ⟨R.ex.f.drewN n, R.ex.k.drewN n, R.ex.s.drewN n⟩ _⟩
  have n1 : p ≠ fb := Cells.ne_type R.box R.ex.f (by decide)
  have n2 : ∀ y ∈ Z, y.1 ≠ fb := fun y hy => Cells.ne_type (R.tks y hy) R.ex.f (by decide)
  have n3 : mb ≠ fb := (mF.ne_cells R.ex.f).symm
  have n4 : wb ≠ fb := Cells.ne_type R.cw R.ex.f (by decide)
  have n5 : lb ≠ fb := Cells.ne_type R.cl R.ex.f (by decide)
  have NN : Aside (∀ n, ∃ W1, W1 = (W.drewN n).setCell ⟨fb, 0, none⟩ (.bool (foundW Z kind s (j + 1))) ∧ Keeps (fun k => k = fb) W W1 ∧ Cells W1 p 72 [ptr fp, .map (some mb)] ∧ (∀ y ∈ Z, Cells W1 y.1 30 (tcells y.2)) ∧ MapF W1 mb m F ∧ Cells W1 wb 90 [.func (.func 41) #[] #[ptr fb, ptr kb, ptr sb]] ∧ Cells W1 lb 24 [ptr p] ∧ Wb W1 fb kb sb (foundW Z kind s (j + 1)) kind s) :=
    ⟨fun n => ⟨_, rfl, XX.it n, R.box.later (XX.it n) n1, fun y hy => (R.tks y hy).later (XX.it n) (n2 y hy), mF.later (XX.it n) n3, R.cw.later (XX.it n) n4, R.cl.later (XX.it n) n5, WB.it n⟩⟩
  have hw := (hz.may x hm).2
  have HZ := Aside.mk hw
  clear R n1 n2 n3 n4 n5 XX WB mF hw
  go_enter Tryd.func61, Tryd.ntmps61
  go_upto_region 2 with (first | (go_at_call 41; refine CB.it.mono ?_; rintro e w1 ⟨rfl, n, hw1⟩) | fail)
  obtain ⟨W1, e1, k1, bx, tk, mp, cw, cl, wx⟩ := NN.it n
  obtain rfl : w1 = W1 := hw1.it.trans e1.symm
  clear hw1
  have p1 : w1.cell? ⟨p, 1, none⟩ = some (.map (some mb)) := by rw [bx.cell]; rfl
  have d1 : w1.cell? ⟨lb, 0, none⟩ = some (ptr p) := by rw [cl.cell]; rfl
  have LV := Aside.mk (leave_at p x.1 mb m x.2 HZ.it p1 (TB.of (tk x hm)) mp)
  have KK := Aside.mk k1
  have EX := Aside.mk (And.intro bx (And.intro tk (And.intro mp (And.intro cw (And.intro cl wx)))))
  clear e1 NN CB k1 bx tk mp cw cl wx p1 c1
  cases hb : outW Z kind s x with
  | true =>
    have HB := Aside.mk hb
    clear hb
    go_wp2_with (first | (go_at_call 38; refine LV.it.mono ?_; rintro e w2 ⟨rfl, m2, k2⟩) | fail)
    go_ret
    obtain ⟨bx, tk, mp, cw, cl, wx⟩ := EX.it
    have r1 : Rm p fp mb m wb lb (.func (.func 41) #[] #[ptr fb, ptr kb, ptr sb]) Z (outW Z kind s) (fun j W => Wb W fb kb sb (foundW Z kind s j) kind s) (j + 1) w2 :=
      ⟨bx.later k2 (mp.ne_cells bx), fun y hy => (tk y hy).later k2 (mp.ne_cells (tk y hy)), ⟨_, m2, holds2_go hH hx HB.it⟩, cw.later k2 (mp.ne_cells cw), cl.later k2 (mp.ne_cells cl), wx.later k2 (mp.ne_cells wx.f) (mp.ne_cells wx.k) (mp.ne_cells wx.s)⟩
    exact ⟨by rw [HB.it]; rfl, ⟨r1⟩, ⟨(KK.it.mono (fun k e _ => .inr e)).trans (k2.mono (fun k e _ => .inl e))⟩⟩
  | false =>
    have HB := Aside.mk hb
    clear hb
    go_wp2
    go_ret
    obtain ⟨bx, tk, mp, cw, cl, wx⟩ := EX.it
    exact ⟨by rw [HB.it]; rfl, ⟨bx, tk, ⟨_, mp, holds2_stay hH hx HB.it⟩, cw, cl, wx⟩, ⟨KK.it.mono (fun k e _ => .inr e)⟩⟩
theorem none_range (hz : ZOk Z) (kind : Int) (s : Nat) (hk : kind < 1 ∨ 7 < kind) : (Z.map (·.2)).any (isT kind s) = false := by
  rw [List.any_eq_false]
  intro t ht e
  obtain ⟨x, hx, rfl⟩ := List.mem_map.1 ht
  have := may_range (hz.may x hx).1
  have := (isT_iff.1 e).1
  omega
theorem none_holds (h : Holds1 F Z) (kind : Int) (s : Nat) (hw : Wd kind s) (h1 : Single kind) (hf : F kind s = none) : (Z.map (·.2)).any (isT kind s) = false := by
  rw [List.any_eq_false]
  intro t ht e
  obtain ⟨x, hx, rfl⟩ := List.mem_map.1 ht
  obtain ⟨e1, e2⟩ := isT_iff.1 e
  have := (h _ _ hw x.1).2 ⟨h1, x.2, hx, e1, e2⟩
  rw [hf] at this
  cases this
theorem shS_of (n : Nat) (h1 : 1 ≤ n) (h7 : n ≤ 7) : shS n = true → Single (n : Int) := by
  have hr : n = 1 ∨ n = 2 ∨ n = 3 ∨ n = 4 ∨ n = 5 ∨ n = 6 ∨ n = 7 := by omega
  rcases hr with rfl | rfl | rfl | rfl | rfl | rfl | rfl <;> decide
/-- 'may such a ticket wait?': where it says no, none does -/
theorem mayHold_at (h : LnI own i w p fp mb F Z m) (h9 : Shapes w) (kind : Int) (s : Nat) (hs : s ≤ 4294967295) :
    ∃ b : Bool, (b = false → (Z.map (·.2)).any (isT kind s) = false) ∧ Calls Tryd.prog 39 #[ptr p, .int .i64 kind, .int .u32 s] w fun e w' => e = .returned (.bool b) ∧ Aside (Keeps Nowhere w w') := by
  by_cases h1 : kind < 1
  · refine ⟨false, fun _ => none_range h.ok kind s (.inl h1), ?_⟩
    clear h h9
    go_enter Tryd.func39, Tryd.ntmps39
    go_wp2
    go_ret
    exact ⟨rfl, ⟨Keeps.refl _ _⟩⟩
  · by_cases h2 : 7 < kind
    · refine ⟨false, fun _ => none_range h.ok kind s (.inr h2), ?_⟩
      clear h h9
      go_enter Tryd.func39, Tryd.ntmps39
      go_wp2
      go_ret
      exact ⟨rfl, ⟨Keeps.refl _ _⟩⟩
    · obtain ⟨n, rfl⟩ : ∃ n : Nat, kind = n := ⟨kind.toNat, by omega⟩
      obtain ⟨c0, c1, c2, c3, c4, c5⟩ := h9 n (by omega)
      have i2 : (n : Int) < 8 := by omega
      have i3 : (0 : Int) ≤ n := by omega
      have p1 : w.cell? ⟨p, 1, none⟩ = some (.map (some mb)) := by rw [h.box.1.cell]; rfl
      have hw : Wd (n : Int) s := ⟨⟨by omega, by omega⟩, hs⟩
      have LK : (Instr.lookup 70 (.map (some mb)) (kv n s) false).run Tryd.prog w = .ok (vF (F n s)) w := h.map.look hw
      cases hS : shS n with
      | false =>
        refine ⟨true, fun e => (by cases e), ?_⟩
        rw [hS] at c5
        clear h h9 LK c0 c1 c2 c3 c4 hw hS
        go_enter Tryd.func39, Tryd.ntmps39
        go_wp2
        go_ret
        exact ⟨rfl, ⟨Keeps.refl _ _⟩⟩
      | true =>
        rw [hS] at c5
        have H1 := shS_of n (by omega) (by omega) hS
        cases hF : F n s with
        | none =>
          rw [hF, vF] at LK
          refine ⟨false, fun _ => none_holds h.holds n s hw H1 hF, ?_⟩
          clear h h9 c0 c1 c2 c3 c4 hw hS H1 hF
          go_enter Tryd.func39, Tryd.ntmps39
          go_wp2
          go_ret
          exact ⟨rfl, ⟨Keeps.refl _ _⟩⟩
        | some b =>
          rw [hF, vF] at LK
          refine ⟨true, fun e => (by cases e), ?_⟩
          clear h h9 c0 c1 c2 c3 c4 hw hS H1 hF
          go_enter Tryd.func39, Tryd.ntmps39
          go_wp2
          go_ret
          exact ⟨rfl, ⟨Keeps.refl _ _⟩⟩
theorem mayHold_nil (w : World) (kind : Int) (s : Nat) : Calls Tryd.prog 39 #[.pointer none, .int .i64 kind, .int .u32 s] w fun e w' => e = .returned (.bool false) ∧ w' = w := by
  go_enter Tryd.func39, Tryd.ntmps39
  go_wp2
  go_ret
  exact ⟨rfl, rfl⟩
theorem erase_none_any {L : List Tk} {kind : Int} {s : Nat} (h : L.any (isT kind s) = false) : L.eraseP (isT kind s) = L := List.eraseP_of_forall_not (fun a ha e => by rw [List.any_eq_false] at h; exact h a ha e)
theorem withdraw_at (h : LnO own i w p Z m) (h9 : Shapes w) (hm : m ≤ 8796093022208) (kind : Int) (s : Nat) (hs : s ≤ 4294967295) :
    Calls Tryd.prog 18 #[ptr p, .int .i64 kind, .int .u32 s] w fun e w' => ∃ own' Z', e = .returned (.bool ((Z.map (·.2)).any (isT kind s))) ∧ Aside (LnO own' i w' p Z' m ∧ Z'.map (·.2) = (Z.map (·.2)).eraseP (isT kind s) ∧ Sn (In4 i) own w own' w') := by
  obtain ⟨fp, mb, F, h⟩ := h
  obtain ⟨W0, hW0⟩ : ∃ W0, W0 = (w.alloc (.cells #[.int .i64 kind] 27)).alloc (.cells #[.int .u32 s] 28) := ⟨_, rfl⟩
  have k0 : Keeps Nowhere w W0 := by rw [hW0]; exact ((Keeps.refl _ _).alloc _).alloc _
  have C1 : Cells W0 w.heap.size 27 [.int .i64 kind] := by rw [hW0]; exact (Cells.new w _ _).later (S := Nowhere) ((Keeps.refl _ _).alloc _) (fun x => x)
  have C2 : Cells W0 (w.heap.size + 1) 28 [.int .u32 s] := by
    have c2 := Cells.new (w.alloc (.cells #[.int .i64 kind] 27)) 28 [.int .u32 s]
    rw [World.size_alloc] at c2
    rw [hW0]; exact c2
  have hsz : W0.heap.size = w.heap.size + 2 := by rw [hW0, World.size_alloc, World.size_alloc]
  obtain ⟨b, hn, MH⟩ := mayHold_at (h.quiet k0) (h9.later k0.bel) kind s hs
  have MH := Aside.mk MH
  have hn := Aside.mk hn
  have d1 : W0.cell? ⟨w.heap.size, 0, none⟩ = some (.int .i64 kind) := by rw [C1.cell]; rfl
  have d2 : W0.cell? ⟨w.heap.size + 1, 0, none⟩ = some (.int .u32 s) := by rw [C2.cell]; rfl
  have HH := Aside.mk h
  have K0 := Aside.mk k0
  have CC := Aside.mk (And.intro C1 (And.intro C2 hsz))
  clear h h9 k0 C1 C2 hsz
  cases b with
  | false =>
    have HN := Aside.mk (hn.it rfl)
    clear hn
    go_enter Tryd.func18, Tryd.ntmps18
    go_upto_region 1 with fail
    rw [← hW0]
    clear hW0
    go_wp2_with (first | (go_at_call 39; refine MH.it.mono ?_; clear MH; rintro e w1 ⟨rfl, k1⟩) | fail)
    go_ret
    rw [HN.it]
    exact ⟨own, Z, rfl, ⟨⟨fp, mb, F, HH.it.quiet (K0.it.trans k1.it)⟩, (erase_none_any HN.it).symm, Sn.same (K0.it.trans k1.it)⟩⟩
  | true =>
    go_enter Tryd.func18, Tryd.ntmps18
    go_upto_region 1 with fail
    rw [← hW0]
    clear hW0
    go_upto_region 3 with (first | (go_at_call 39; refine MH.it.mono ?_; clear MH; rintro e w1 ⟨rfl, k1⟩) | fail)
    clear d1 d2
    obtain ⟨W2, hW2⟩ : ∃ W2, W2 = w1.alloc (.cells #[.bool false] 4) := ⟨_, rfl⟩
    have k2 : Keeps Nowhere w1 W2 := by rw [hW2]; exact (Keeps.refl _ _).alloc _
    have hf : W2.heap.size = w1.heap.size + 1 := by rw [hW2, World.size_alloc]
    obtain ⟨fb, hfb⟩ : ∃ fb, w1.heap.size = fb := ⟨_, rfl⟩
    have hge : w.heap.size ≤ fb := by have := K0.it.size; have := k1.it.size; omega
    have hge2 : w.heap.size + 2 ≤ fb := by have := CC.it.2.2; have := k1.it.size; omega
    have C0 : Wb W2 fb w.heap.size (w.heap.size + 1) false kind s := ⟨by rw [hW2, ← hfb]; exact Cells.new w1 _ _, CC.it.1.later (k1.it.trans k2) (fun x => x), CC.it.2.1.later (k1.it.trans k2) (fun x => x)⟩
    have k02 : Keeps Nowhere w W2 := (K0.it.trans k1.it).trans k2
    have H0 := HH.it.sn (I := fun _ => False) (Sn.quiet k02 (i + 4)) (fun _ _ x => x)
    have RM := Aside.mk (remove_gen (w := W2) H0 hm (.func 41) #[] #[ptr fb, ptr w.heap.size, ptr (w.heap.size + 1)] (outW Z kind s) (fun j W => Wb W fb w.heap.size (w.heap.size + 1) (foundW Z kind s j) kind s) (fun k => k = fb) (fun k e => ⟨by omega, by rw [e, give_new (by omega)]; omega⟩)
      (fun W k => C0.later k (fun x => x) (fun x => x) (fun x => x)) (fun _ W W' hc hk => hc.later hk (by omega) (by omega) (by omega))
      (fun j x W hx R => (cbW _ _ _ kind s R HH.it.ok hx).mono (fun e W' ⟨a, b, c⟩ => ⟨a, b, c⟩)))
    obtain ⟨f1, f2⟩ := filter_outW (Z := Z) kind s HH.it.ok.nodup
    have F1 := Aside.mk f1
    have K2 := Aside.mk k02
    have FB := Aside.mk (And.intro hfb hge)
    clear H0 C0 k2 f1 k02 hf hge2 hge HH CC K0
    cases hb : (Z.map (·.2)).any (isT kind s) with
    | true =>
      rw [hb, if_pos rfl] at f2
      rw [f2] at RM
      have HB := Aside.mk hb
      clear f2 hb
      go_upto_region 4 with fail
      rw [← hW2]
      clear hW2 hfb
      go_wp2_with (first | (go_at_call 40; refine RM.it.mono ?_; rintro e w2 ⟨own2, rfl, r2⟩) | fail)
      go_ret
      rw [HB.it]
      exact ⟨own2, _, rfl, ⟨r2.it.1, F1.it, sn_of4 K2.it r2.it.2.1 r2.it.2.2 (fun k e => by have := FB.it.2; omega)⟩⟩
    | false =>
      rw [hb, if_neg (by simp)] at f2
      rw [f2] at RM
      have HB := Aside.mk hb
      clear f2 hb
      go_upto_region 4 with fail
      rw [← hW2]
      clear hW2 hfb
      go_wp2_with (first | (go_at_call 40; refine RM.it.mono ?_; rintro e w2 ⟨own2, rfl, r2⟩) | fail)
      go_ret
      rw [HB.it]
      exact ⟨own2, _, rfl, ⟨r2.it.1, F1.it, sn_of4 K2.it r2.it.2.1 r2.it.2.2 (fun k e => by have := FB.it.2; omega)⟩⟩
end Go.Proofs.YtialmmobkmdfpaaDoor
