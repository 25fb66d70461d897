/-
  package credit: Spend, Grant
-/
import Derived.Test.YteghehhifebhcaaDoorOCredA
import Derived.Deep.Cut
import Derived.Deep.RegionHeldLaw
namespace Go.Proofs.YteghehhifebhcaaDoor
open Go.RowKit

section
variable {own own' : Nat → Nat} {i : Nat} {w w' : World} {p : Nat} {W c s : Int} {I : Nat → Prop} {A : Nat → Addr}

/-- how Spend and Grant end -/
def Ends (A : Nat → Addr) (own : Nat → Nat) (i : Nat) (w : World) (p : Nat) (W c s k : Int) (e : Ending) (w' : World) : Prop :=
  ∃ v own', e = .returned v ∧ Hid (Coded A v k) ∧ Aside (SendO own' i w' p W c s ∧ Sn (fun k => k = i) own w own' w')
theorem Ends.quiet {k : Int} {v : Value} (h : SendO own i w p W c s) (hv : Coded A v k) (hk : Keeps Nowhere w w') : Ends A own i w p W c s k (.returned v) w' :=
  ⟨v, own, rfl, hv, ⟨h.quiet hk, Sn.same hk⟩⟩

theorem SendO.set (h : SendO own i w p W c s) (c' s' : Int) (h1 : 0 ≤ c') (h2 : c' ≤ W) (h3 : 0 ≤ s') (h4 : s' ≤ 18446744073709551615) :
    SendO own i ((w.setCell ⟨p, 1, none⟩ (.int .u32 c')).setCell ⟨p, 2, none⟩ (.int .u64 s')) p W c' s' ∧ Sn (fun k => k = i) own w own ((w.setCell ⟨p, 1, none⟩ (.int .u32 c')).setCell ⟨p, 2, none⟩ (.int .u64 s')) :=
  ⟨⟨⟨(h.at_.1.setCell 1 (.int .u32 c')).setCell 2 (.int .u64 s'), h.at_.2⟩, h.w1, h.w2, h1, h2, h3, h4⟩, fun _ _ => rfl, ((Keeps.refl _ _).setCell _ _ (fun _ => h.at_.2)).setCell _ _ (fun _ => h.at_.2)⟩
theorem SendO.set1 (h : SendO own i w p W c s) (c' : Int) (h1 : 0 ≤ c') (h2 : c' ≤ W) :
    SendO own i (w.setCell ⟨p, 1, none⟩ (.int .u32 c')) p W c' s ∧ Sn (fun k => k = i) own w own (w.setCell ⟨p, 1, none⟩ (.int .u32 c')) :=
  ⟨⟨⟨h.at_.1.setCell 1 (.int .u32 c'), h.at_.2⟩, h.w1, h.w2, h1, h2, h.s1, h.s2⟩, fun _ _ => rfl, (Keeps.refl _ _).setCell _ _ (fun _ => h.at_.2)⟩
theorem wrap64 (n : Int) : 0 ≤ IntKind.u64.wrap n ∧ IntKind.u64.wrap n ≤ 18446744073709551615 := by rw [IntKind.wrap_u64]; omega
theorem spend_ok (h : SendO own i w p W c s) (n : Int) (hs : SentO A w) (h0 : 0 ≤ n) (h1 : n ≤ c) :
    Calls Tryd.prog 49 #[ptr p, .int .i64 n] w fun e w' => Ends A own i w p W (c - n) (IntKind.u64.wrap (s + n)) 0 e w' := by
  have hw1 := h.w1
  have hw2 := h.w2
  have hc2 := h.c2
  have c1 := h.cell1
  have c2 := h.cell2
  have f1 := h.at_.1.frozen 1
  have f2 := h.at_.1.frozen 2
  have s1 := h.s1
  have s2 := h.s2
  have hc := hs.cell 1 0 rfl
  have L := Aside.mk (fun w => less_ok c n w (by omega) h0 h1)
  have H := Aside.mk h
  clear h hs
  go_enter Tryd.func49, Tryd.ntmps49
  go_wp2_with (first | (go_at_call 73; refine (L.it _).mono ?_; rintro e w' ⟨rfl, rfl⟩) | (go_at_call 34; refine (is_nil (A 1) _).mono ?_; rintro e w' ⟨rfl, rfl⟩) | fail)
  go_ret
  have b := wrap64 (s + n)
  exact ⟨_, own, rfl, Coded.none, ⟨H.it.set _ _ (by omega) (by omega) b.1 b.2⟩⟩
theorem spend_under (h : SendO own i w p W c s) (n : Int) (hs : SentO A w) (h0 : 0 ≤ n) (hn : n ≤ 4294967295) (h1 : ¬ n ≤ c) :
    Calls Tryd.prog 49 #[ptr p, .int .i64 n] w fun e w' => Ends A own i w p W c s 5 e w' := by
  have c1 := h.cell1
  have L := Aside.mk (less_under c n w hs h0 hn h1)
  have H := Aside.mk h
  have HS := Aside.mk hs
  clear h hs
  go_enter Tryd.func49, Tryd.ntmps49
  go_upto_region 4 with (first | (go_at_call 73; refine L.it.mono ?_; rintro e w1 ⟨rfl, b1⟩) | fail)
  have S1 := Aside.mk (HS.it.later b1.it)
  have hc := S1.it.cell 1 0 rfl
  have IS := Aside.mk (is_sentsO S1.it 4 1 (by decide) (by decide))
  go_wp2_with (first | (go_at_call 34; refine IS.it.mono ?_; rintro e w' ⟨rfl, rfl⟩) | fail)
  go_ret
  exact Ends.quiet H.it (Coded.mk 4 5 (by decide) (by decide) rfl) (Keeps.ofBelow b1.it)
theorem spend_range (h : SendO own i w p W c s) (n : Int) (hs : SentO A w) (h0 : n < 0) :
    Calls Tryd.prog 49 #[ptr p, .int .i64 n] w fun e w' => Ends A own i w p W c s 2 e w' := by
  have c1 := h.cell1
  have L := Aside.mk (less_range c n w hs (.inl h0))
  have H := Aside.mk h
  have HS := Aside.mk hs
  have h0' : ¬ 0 < n := by omega
  clear h hs
  go_enter Tryd.func49, Tryd.ntmps49
  go_upto_region 4 with (first | (go_at_call 73; refine L.it.mono ?_; rintro e w1 ⟨rfl, b1⟩) | fail)
  have S1 := Aside.mk (HS.it.later b1.it)
  have hc := S1.it.cell 1 0 rfl
  have IS := Aside.mk (is_sentsO S1.it 1 1 (by decide) (by decide))
  go_wp2_with (first | (go_at_call 34; refine IS.it.mono ?_; rintro e w' ⟨rfl, rfl⟩) | fail)
  go_ret
  exact Ends.quiet H.it (Coded.mk 1 2 (by decide) (by decide) rfl) (Keeps.ofBelow b1.it)
theorem spend_above (h : SendO own i w p W c s) (n : Int) (hs : SentO A w) (h0 : 4294967295 < n) :
    Calls Tryd.prog 49 #[ptr p, .int .i64 n] w fun e w' => Ends A own i w p W c s 5 e w' := by
  have c1 := h.cell1
  have L := Aside.mk (less_range c n w hs (.inr h0))
  have H := Aside.mk h
  have HS := Aside.mk hs
  have h0' : 0 < n := by omega
  clear h hs
  go_enter Tryd.func49, Tryd.ntmps49
  go_upto_region 4 with (first | (go_at_call 73; refine L.it.mono ?_; rintro e w1 ⟨rfl, b1⟩) | fail)
  have S1 := Aside.mk (HS.it.later b1.it)
  have hc := S1.it.cell 1 0 rfl
  have hc4 := S1.it.cell 4 7 rfl
  have IS := Aside.mk (is_sentsO S1.it 1 1 (by decide) (by decide))
  go_wp2_with (first | (go_at_call 34; refine IS.it.mono ?_; rintro e w' ⟨rfl, rfl⟩) | fail)
  go_ret
  exact Ends.quiet H.it (Coded.mk 4 5 (by decide) (by decide) rfl) (Keeps.ofBelow b1.it)
theorem spend_any (h : SendO own i w p W c s) (n : Int) (hs : SentO A w) :
    Calls Tryd.prog 49 #[ptr p, .int .i64 n] w fun e w' => Ends A own i w p W (spC c n) (spS c s n) (spE c n) e w' := by
  unfold spC spS spE
  by_cases h0 : n < 0
  · rw [if_pos h0, if_pos h0, if_pos h0]; exact spend_range h n hs h0
  · rw [if_neg h0, if_neg h0, if_neg h0]
    by_cases h1 : c < n
    · rw [if_pos h1, if_pos h1, if_pos h1]
      by_cases h2 : n ≤ 4294967295
      · exact spend_under h n hs (by omega) h2 (by omega)
      · exact spend_above h n hs (by omega)
    · rw [if_neg h1, if_neg h1, if_neg h1]; exact spend_ok h n hs (by omega) (by omega)

end
end Go.Proofs.YteghehhifebhcaaDoor
