/-
  package grant: Arrive, Read
-/
import Derived.Test.YteghehhifebhcaaDoorOGrantA
namespace Go.Proofs.YteghehhifebhcaaDoor
open Go.RowKit

section
variable {own own' : Nat → Nat} {i : Nat} {w w' : World} {p : Nat} {W l u o : Int} {I : Nat → Prop} {A : Nat → Addr}

/-- a Recv of i's -/
structure RecvO (own : Nat → Nat) (i : Nat) (w : World) (p : Nat) (W l u o : Int) : Prop where
  cnt : CntO own i w p W l u o
  ow : o < (W + 1) / 2
theorem RecvO.sn (h : RecvO own i w p W l u o) (k : Sn I own w own' w') (hi : ¬ I i) : RecvO own' i w' p W l u o := ⟨h.cnt.sn k hi, h.ow⟩
theorem RecvO.quiet (h : RecvO own i w p W l u o) (k : Keeps Nowhere w w') : RecvO own i w' p W l u o := ⟨h.cnt.quiet k, h.ow⟩
theorem CntO.recv {n : Int} (h : CntO own i w p n n 0 0) : RecvO own i w p n n 0 0 := ⟨h, by have := h.w1; omega⟩

def arE (l n : Int) : Int := if n < 0 then 2 else if l < n then 16 else 0
def arL (l n : Int) : Int := if n < 0 then l else if l < n then l else l - n
def arU (l u n : Int) : Int := if n < 0 then u else if l < n then u else u + n
def rdE (u n : Int) : Int := if n < 0 then 2 else if u < n then 5 else 0
def rdG (W u o n : Int) : Int := if n < 0 then 0 else if u < n then 0 else if o + n < (W + 1) / 2 then 0 else o + n
def rdU (u n : Int) : Int := if n < 0 then u else if u < n then u else u - n
def rdO (W u o n : Int) : Int := if n < 0 then o else if u < n then o else if o + n < (W + 1) / 2 then o + n else 0

/-- how Arrive ends -/
def EndsA (A : Nat → Addr) (own : Nat → Nat) (i : Nat) (w : World) (p : Nat) (W l u o k : Int) (e : Ending) (w' : World) : Prop :=
  ∃ v, e = .returned v ∧ Hid (Coded A v k) ∧ Aside (RecvO own i w' p W l u o ∧ Sn (fun k => k = i) own w own w')
theorem arrive_ok (h : RecvO own i w p W l u o) (n : Int) (h0 : 0 ≤ n) (h1 : n ≤ l) :
    Calls Tryd.prog 56 #[ptr p, .int .i64 n] w fun e w' => EndsA A own i w p W (l - n) (u + n) o 0 e w' := by
  have c0 := h.cnt.cell0
  have K := Aside.mk (come_at h.cnt n h0 h1)
  have OW := Aside.mk h.ow
  have h0' : ¬ n < 0 := by omega
  have h1' : ¬ l < n := by omega
  clear h
  go_enter Tryd.func56, Tryd.ntmps56
  go_wp2_with (first | (go_at_call 77; refine K.it.mono ?_; rintro e w' ⟨rfl, X⟩) | fail)
  go_ret
  exact ⟨_, rfl, Coded.none, ⟨⟨X.it.1, OW.it⟩, X.it.2⟩⟩
theorem arrive_neg (h : RecvO own i w p W l u o) (n : Int) (hs : Sent8 A w) (h0 : n < 0) :
    Calls Tryd.prog 56 #[ptr p, .int .i64 n] w fun e w' => EndsA A own i w p W l u o 2 e w' := by
  have hc := hs.range
  have H := Aside.mk h
  clear h hs
  go_enter Tryd.func56, Tryd.ntmps56
  go_wp2_with fail
  go_ret
  exact ⟨_, rfl, Coded.mk 1 2 (by decide) (by decide) rfl, ⟨H.it, Sn.refl _ _ _⟩⟩
theorem arrive_over (h : RecvO own i w p W l u o) (n : Int) (hs : Sent8 A w) (h0 : 0 ≤ n) (h1 : l < n) :
    Calls Tryd.prog 56 #[ptr p, .int .i64 n] w fun e w' => EndsA A own i w p W l u o 16 e w' := by
  have hc := hs.window
  have c0 := h.cnt.cell0
  have h0' : ¬ n < 0 := by omega
  have H := Aside.mk h
  clear h hs
  go_enter Tryd.func56, Tryd.ntmps56
  go_wp2_with fail
  go_ret
  exact ⟨_, rfl, Coded.mk 15 16 (by decide) (by decide) rfl, ⟨H.it, Sn.refl _ _ _⟩⟩
theorem arrive_any (h : RecvO own i w p W l u o) (n : Int) (hs : Sent8 A w) :
    Calls Tryd.prog 56 #[ptr p, .int .i64 n] w fun e w' => EndsA A own i w p W (arL l n) (arU l u n) o (arE l n) e w' := by
  unfold arL arU arE
  by_cases h0 : n < 0
  · rw [if_pos h0, if_pos h0, if_pos h0]; exact arrive_neg h n hs h0
  · rw [if_neg h0, if_neg h0, if_neg h0]
    by_cases h1 : l < n
    · rw [if_pos h1, if_pos h1, if_pos h1]; exact arrive_over h n hs (by omega) h1
    · rw [if_neg h1, if_neg h1, if_neg h1]; exact arrive_ok h n (by omega) (by omega)
theorem arrive_nil (n : Int) (hs : Sent8 A w) : Calls Tryd.prog 56 #[.pointer none, .int .i64 n] w fun e w' => e = .returned (.iface 156 (.pointer (some (A 0)))) ∧ w' = w := by
  have hc := hs.nil_
  clear hs
  go_enter Tryd.func56, Tryd.ntmps56
  go_wp2_with fail
  go_ret
  exact ⟨rfl, rfl⟩

/-- how Read ends -/
def EndsR (A : Nat → Addr) (own : Nat → Nat) (i : Nat) (w : World) (p : Nat) (W l u o g k : Int) (e : Ending) (w' : World) : Prop :=
  ∃ v, e = .returned (.tuple #[.int .u32 g, v]) ∧ Hid (Coded A v k) ∧ Aside (RecvO own i w' p W l u o ∧ Sn (fun k => k = i) own w own w')
theorem read_neg (h : RecvO own i w p W l u o) (n : Int) (hs : Sent8 A w) (h0 : n < 0) :
    Calls Tryd.prog 76 #[ptr p, .int .i64 n] w fun e w' => EndsR A own i w p W l u o 0 2 e w' := by
  have hc := hs.range
  have H := Aside.mk h
  clear h hs
  go_enter Tryd.func76, Tryd.ntmps76
  go_wp2_with fail
  go_quiet (fail)
  go_wp2
  go_ret2
  exact ⟨_, rfl, Coded.mk 1 2 (by decide) (by decide) rfl, ⟨H.it.quiet ((Keeps.refl _ _).drewN _), Sn.same ((Keeps.refl _ _).drewN _)⟩⟩
theorem read_over (h : RecvO own i w p W l u o) (n : Int) (hs : Sent8 A w) (h0 : 0 ≤ n) (h1 : u < n) :
    Calls Tryd.prog 76 #[ptr p, .int .i64 n] w fun e w' => EndsR A own i w p W l u o 0 5 e w' := by
  have hc := hs.under
  have c0 := h.cnt.cell1
  have h0' : ¬ n < 0 := by omega
  have H := Aside.mk h
  clear h hs
  go_enter Tryd.func76, Tryd.ntmps76
  go_wp2_with fail
  go_quiet (fail)
  go_wp2
  go_ret2
  exact ⟨_, rfl, Coded.mk 4 5 (by decide) (by decide) rfl, ⟨H.it.quiet ((Keeps.refl _ _).drewN _), Sn.same ((Keeps.refl _ _).drewN _)⟩⟩
theorem read_nil (n : Int) (hs : Sent8 A w) : Calls Tryd.prog 76 #[.pointer none, .int .i64 n] w fun e w' => e = .returned (.tuple #[.int .u32 0, .iface 156 (.pointer (some (A 0)))]) ∧ Aside (Keeps Nowhere w w') := by
  have hc := hs.nil_
  clear hs
  go_enter Tryd.func76, Tryd.ntmps76
  go_wp2_with fail
  go_quiet (fail)
  go_wp2
  go_ret2
  exact ⟨rfl, ⟨(Keeps.refl _ _).drewN _⟩⟩
theorem window_q (h : CntO own i w p W l u o) (n : Nat) : Calls Tryd.prog 91 #[ptr p] (w.drewN n) fun e w' => e = .returned (.int .i64 W) ∧ ∃ m, w' = w.drewN m :=
  (window_at (h.quiet ((Keeps.refl _ _).drewN n))).mono fun _ _ x => ⟨x.1, by obtain ⟨m, hm⟩ := x.2; exact ⟨n + m, by rw [hm, World.drewN_drewN]⟩⟩
theorem threshold_q (n : Int) (h1 : 1 ≤ n) (h2 : n ≤ 2147483647) (k : Nat) : Calls Tryd.prog 90 #[.int .i64 n] (w.drewN k) fun e w' => e = .returned (.int .i64 ((n + 1) / 2)) ∧ ∃ m, w' = w.drewN m :=
  (threshold_in n (w.drewN k) h1 h2).mono fun _ _ x => ⟨x.1, k, x.2⟩
theorem read_less (h : RecvO own i w p W l u o) (n : Int) (h0 : 0 ≤ n) (h1 : n ≤ u) (h2 : o + n < (W + 1) / 2) :
    Calls Tryd.prog 76 #[ptr p, .int .i64 n] w fun e w' => EndsR A own i w p W l (u - n) (o + n) 0 0 e w' := by
  have c0 := h.cnt.cell1
  have h0' : ¬ n < 0 := by omega
  have h1' : ¬ u < n := by omega
  have K := Aside.mk (owe_at h.cnt n h0 h1)
  clear h
  go_enter Tryd.func76, Tryd.ntmps76
  go_upto_region 8 with (first | (go_at_call 89; refine K.it.mono ?_; rintro e w1 ⟨rfl, X⟩) | fail)
  have c2 := X.it.1.cell2
  have WI := Aside.mk (window_q X.it.1)
  have TH := Aside.mk (threshold_q (w := w1) W X.it.1.w1 X.it.1.w2)
  go_quiet (first | (go_at_call 91; exact WI.it _) | (go_at_call 90; exact TH.it _))
  go_wp2
  go_ret2
  have k := (Keeps.refl Nowhere w1).drewN
  exact ⟨_, rfl, Coded.none, ⟨⟨X.it.1.quiet (k _), h2⟩, X.it.2.trans (Sn.same (k _))⟩⟩
theorem read_grant (h : RecvO own i w p W l u o) (n : Int) (h0 : 0 ≤ n) (h1 : n ≤ u) (h2 : ¬ o + n < (W + 1) / 2) :
    Calls Tryd.prog 76 #[ptr p, .int .i64 n] w fun e w' => EndsR A own i w p W (l + (o + n)) (u - n) 0 (o + n) 0 e w' := by
  have c0 := h.cnt.cell1
  have h0' : ¬ n < 0 := by omega
  have h1' : ¬ u < n := by omega
  have K := Aside.mk (owe_at h.cnt n h0 h1)
  clear h
  go_enter Tryd.func76, Tryd.ntmps76
  go_upto_region 8 with (first | (go_at_call 89; refine K.it.mono ?_; rintro e w1 ⟨rfl, X⟩) | fail)
  have c2 := X.it.1.cell2
  have WI := Aside.mk (window_q X.it.1)
  have TH := Aside.mk (threshold_q (w := w1) W X.it.1.w1 X.it.1.w2)
  go_quiet (first | (go_at_call 91; exact WI.it _) | (go_at_call 90; exact TH.it _))
  have k := Aside.mk ((Keeps.refl Nowhere w1).drewN)
  have G := Aside.mk (fun m => grant_at (X.it.1.quiet (k.it m)))
  have N := Aside.mk (fun w => narrow_ok (o + n) w X.it.1.o1 (by have := X.it.1.sum; have := X.it.1.w2; have := X.it.1.l1; have := X.it.1.u1; omega))
  clear c2 c0
  go_wp2_with (first | (go_at_call 92; refine (G.it _).mono ?_; rintro e w2 ⟨rfl, Y⟩) | (go_at_call 87; refine (N.it _).mono ?_; rintro e w' ⟨rfl, rfl⟩) | fail)
  go_ret2
  exact ⟨_, rfl, Coded.none, ⟨⟨Y.it.1, by have := X.it.1.w1; omega⟩, (X.it.2.trans (Sn.same (k.it _))).trans Y.it.2⟩⟩
theorem read_any (h : RecvO own i w p W l u o) (n : Int) (hs : Sent8 A w) :
    Calls Tryd.prog 76 #[ptr p, .int .i64 n] w fun e w' => EndsR A own i w p W (l + rdG W u o n) (rdU u n) (rdO W u o n) (rdG W u o n) (rdE u n) e w' := by
  unfold rdG rdU rdO rdE
  by_cases h0 : n < 0
  · simp only [if_pos h0, Int.add_zero]; exact read_neg h n hs h0
  · simp only [if_neg h0]
    by_cases h1 : u < n
    · simp only [if_pos h1, Int.add_zero]; exact read_over h n hs (by omega) h1
    · simp only [if_neg h1]
      by_cases h2 : o + n < (W + 1) / 2
      · simp only [if_pos h2, Int.add_zero]; exact read_less h n (by omega) (by omega) h2
      · simp only [if_neg h2]; exact read_grant h n (by omega) (by omega) h2
end
end Go.Proofs.YteghehhifebhcaaDoor
