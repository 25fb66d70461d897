/-
  culvertlaw27.MsgMost
-/
import Derived.Test.YtllioaclnkkhhabDoorMhV
namespace Go.Proofs.YtllioaclnkkhhabDoor
open Go.RowKit

section
variable {A : Nat → Addr} {w : World}
set_option maxRecDepth 20000 in
set_option maxHeartbeats 1000000 in
theorem msgMost_good (most more : Nat) (hm : most + more ≤ 1048576) (v : Value) (zs : List PcV) (hs : Sents 76 codeVars A w) (hz : PiecesArg w v zs) :
    Calls Tryd.prog 3 #[.int .i64 most, .int .i64 more, v] w fun e w' => e = .returned (.bool true) ∧ Below w.heap.size w w' := by
  obtain ⟨hz1, hz2, sa, sc, rfl, hsc1, hsc2, hzc⟩ := hz
  obtain ⟨M, hM⟩ : ∃ M, zs.length = M := ⟨_, rfl⟩
  rw [hM] at hz1 hsc1 ⊢
  obtain ⟨mm, hmm⟩ : ∃ mm, most + more = mm := ⟨_, rfl⟩
  have F := Aside.mk (fixed27 hs)
  have HZ := Aside.mk hzc
  have HM := Aside.mk (And.intro hM hz2)
  have HS := Aside.mk hs
  have q0 : IntKind.i64.wrap ((most : Int) + (more : Int)) = (mm : Int) := by rw [IntKind.wrap_i64]; omega
  have q1 : (most : Int) + (more : Int) = (mm : Int) := by omega
  have q2 : ¬ ((most : Int) < 0) := by omega
  have q3 : ¬ ((more : Int) < 0) := by omega
  have q4 : ¬ ((1048576 : Int) < (most : Int)) := by omega
  have q5 : ¬ (IntKind.i64.wrap ((1048576 : Int) - (most : Int)) < (more : Int)) := by rw [IntKind.wrap_i64]; omega
  have q6 : (more : Int) ≤ 1048576 - (most : Int) := by omega
  have HMo := Aside.mk (show most ≤ 1048576 ∧ mm ≤ 1048576 ∧ most ≤ mm from ⟨by omega, by omega, by omega⟩)
  clear hs hzc hM hz2 hm
  go_enter Tryd.func3, Tryd.ntmps3
  go_upto_region 5 with (first | (go_at_call 6; refine F.it.mono ?_; clear F; rintro e w1 ⟨rfl, B1⟩) | fail)
  have N1 := Aside.mk (newM_ok (w := w1) HMo.it.1 (fun _ => 0) 1)
  go_upto_region 6 with (first | (go_at_call 7; refine N1.it.mono ?_; clear N1; rintro e w2 ⟨p, rfl, R2, K2⟩) | fail)
  have N2 := Aside.mk (newM_ok (w := w2) HMo.it.2.1 (give (fun _ => 0) w1.heap.size 1) 6)
  go_upto_region 7 with (first | (go_at_call 7; refine N2.it.mono ?_; clear N2; rintro e w3 ⟨s, rfl, R3, K3⟩) | fail)
  have e0 : ∀ m, parseM m [] = ⟨[], [], false⟩ := fun m => parseM_none rfl
  have G0 : Aside (Mo A w1 (give (give (fun _ => 0) w1.heap.size 1) w2.heap.size 6) w3 p s most mm (parseM most []) (parseM mm []) (.slice none 0 0) (.slice none 0 0) (.slice none 0 0) (.slice none 0 0) (parseM most []).ms (parseM mm []).ms [] []) := ⟨by
    rw [e0, e0]
    have s3 : Sn (fun _ => False) (give (fun _ => 0) w1.heap.size 1) w2 (give (give (fun _ => 0) w1.heap.size 1) w2.heap.size 6) w3 := Sn.quiet K3.it 6
    exact ⟨((OnG.start (HS.it.later B1.it)).sn (I := fun _ => False) (Sn.quiet K2.it 1) (fun x => x)).sn s3 (fun x => x), R2.it.sx s3.sx (fun x => x) (fun x => x), R3.it, RowL.nil _ _ _ _, RowL.nil _ _ _ _, RowL.nil _ _ _ _, RowL.nil _ _ _ _⟩⟩
  clear R2 R3 K2 K3 e0 q2 q3 q4 q5 q6
  generalize give (give (fun _ => 0) w1.heap.size 1) w2.heap.size 6 = own3 at G0
  go_upto_region 11 with fail
  go_loopw [11, 12, 65] (fun fr nr iv wr => ∃ (i : Nat) (own : Nat → Nat) (F : List Int) (fq : Option Addr) (fl fc : Nat) (nq : Option Addr) (nl nc : Nat), fr = .slice fq fl fc ∧ nr = .slice nq nl nc ∧ iv = .int .i64 i ∧ i ≤ M ∧ Aside (Mo A w1 own wr p s most mm (parseM most F) (parseM mm F) (.slice fq fl fc) (.slice nq nl nc) (.slice none 0 0) (.slice none 0 0) (parseM most F).ms (parseM mm F).ms [] [] ∧ AreBytes F ∧ F.length ≤ ((zs.take i).map (fun z => z.ns.length)).sum)) (fun _ _ iv _ => M - natV iv)
  case atStart => exact ⟨0, own3, [], none, 0, 0, none, 0, 0, rfl, rfl, rfl, Nat.zero_le _, ⟨G0.it, (fun x hx => by cases hx), by simp⟩⟩
  case round =>
    clear G0
    obtain ⟨i, own, F, fq, fl, fc, nq, nl, nc, rfl, rfl, rfl, hi, G⟩ := hrel
    have BR : Aside (Below w.heap.size w wr) := ⟨B1.it.trans (G.it.1.g.g.bel.mono B1.it.size)⟩
    rcases Nat.eq_or_lt_of_le hi with e | hlt
    · subst e
      go_wp2_with fail
      go_ret
      exact ⟨rfl, BR.it⟩
    · obtain ⟨z, hzi⟩ : ∃ z, zs[i]? = some z := ⟨_, List.getElem?_eq_getElem (by rw [HM.it.1]; exact hlt)⟩
      obtain ⟨gz, oz, cs, rfl, ⟨rfl, hzr, hzb⟩, _, hcs⟩ := HZ.it i z hzi
      have cz : wr.cell? ⟨gz, oz + i, none⟩ = some z.sl := by
        have := hcs 0 (by decide)
        rw [Nat.mul_one, Nat.add_zero] at this
        rw [BR.it.cell (World.block_lt_of_cell? w _ this)]
        exact this
      obtain ⟨pz, kz, hzsl⟩ := hzr.shape
      have hsum := sumV_take hzi
      have hle := sumV_le (zs := zs) (i + 1)
      have HSU : Aside (((F ++ z.ns).length ≤ ((zs.take (i + 1)).map (fun z => z.ns.length)).sum) ∧ (F ++ z.ns).length ≤ 1048576 ∧ z.ns.length ≤ 1048576 ∧ AreBytes (F ++ z.ns)) := ⟨by
        have := G.it.2.2
        have := HM.it.2
        rw [List.length_append]
        exact ⟨by omega, by omega, by omega, fun x hx => (List.mem_append.1 hx).elim (G.it.2.1 x) (hzb x)⟩⟩
      obtain ⟨n, hn⟩ : ∃ n, z.ns.length = n := ⟨_, rfl⟩
      rw [hn] at hzsl
      rw [hzsl] at cz hzr
      have hlt' : (i : Int) < (M : Int) := by omega
      have HZR := Aside.mk hzr
      have HZB := Aside.mk (And.intro hzb hn)
      clear hcs hzr hzb hn hsum hle hzi hzsl
      have P1 := parse_more (most := most) (F := F) z.ns rfl
      have P2 := parse_more (most := mm) (F := F) z.ns rfl
      have k7 : Keeps Nowhere wr (wr.alloc (.cells #[] 5)) := (Keeps.refl _ _).alloc _
      have RZ : Aside (Rd (wr.alloc (.cells #[] 5)) (.slice pz n kz) z.ns) := ⟨HZR.it.later (BR.it.trans (k7.bel.mono BR.it.size))⟩
      have bnd : Aside (([] : List Int).length + z.ns.length ≤ 140737488355328) := ⟨by have := HSU.it.2.2.1; simp; omega⟩
      have hz41 : Aside (z.ns.length ≤ 2199023255552) := ⟨by have := HSU.it.2.2.1; omega⟩
      have C1 := Aside.mk (show (parseM most F).ms.length + (outM most (parseM most F).rest (parseM most F).dead z.ns).ms.length ≤ 4398046511103 by
        have h1 := cnt_parse most (F ++ z.ns)
        have h2 := HSU.it.2.1
        rw [P1] at h1
        simp only [List.length_append] at h1 h2
        omega)
      have C2 := Aside.mk (show (parseM mm F).ms.length + (outM mm (parseM mm F).rest (parseM mm F).dead z.ns).ms.length ≤ 4398046511103 by
        have h1 := cnt_parse mm (F ++ z.ns)
        have h2 := HSU.it.2.1
        rw [P2] at h1
        simp only [List.length_append] at h1 h2
        omega)
      have PP := Aside.mk (And.intro P1 P2)
      clear k7 P1 P2
      go_upto_region 14 with (first
        | (at_builtin; refine wpList_appendO rfl (.tmp 71) (.tmp 72) rfl (.slice (some ⟨wr.heap.size, 0, none⟩) 0 0) (.slice pz n kz) [] z.ns (owns_any (owns_empty wr 5)) RZ.it bnd.it rfl rfl ?_; intro q8 l8 c8 w8 O8 K8 B8
           obtain ⟨own8, M8, R8⟩ := G.it.1.seg ((Keeps.refl _ _).alloc _) O8.it K8.it B8.it
           have FD := Aside.mk (M8.feedA R8 HZB.it.1 hz41.it)
           clear M8 R8)
        | (go_at_call 8; refine FD.it.mono ?_; clear FD; rintro e w9 ⟨xq, xl, xc, ev9, own9, rfl, M9⟩)
        | fail)
      clear O8 K8 B8 RZ G
      have RZ : Aside (Rd (w9.alloc (.cells #[] 5)) (.slice pz n kz) z.ns) := ⟨by
        have k7 : Keeps Nowhere w9 (w9.alloc (.cells #[] 5)) := (Keeps.refl _ _).alloc _
        have b9 : Below w.heap.size w w9 := B1.it.trans (M9.it.g.g.bel.mono B1.it.size)
        exact HZR.it.later (b9.trans (k7.bel.mono b9.size))⟩
      go_upto_region 15 with (first
        | (at_builtin; refine wpList_appendO rfl (.tmp 79) (.tmp 80) rfl (.slice (some ⟨w9.heap.size, 0, none⟩) 0 0) (.slice pz n kz) [] z.ns (owns_any (owns_empty w9 5)) RZ.it bnd.it rfl rfl ?_; intro q8 l8 c8 w8 O8 K8 B8
           obtain ⟨own8, M8, R8⟩ := M9.it.seg ((Keeps.refl _ _).alloc _) O8.it K8.it B8.it
           have FD := Aside.mk (M8.feedB R8 HZB.it.1 hz41.it)
           clear M8 R8)
        | (go_at_call 8; refine FD.it.mono ?_; clear FD; rintro e w10 ⟨yq, yl, yc, ev10, own10, rfl, M10⟩)
        | fail)
      clear O8 K8 B8 RZ M9
      go_upto_region 16 with (first
        | (at_builtin; refine wpList_appendLL rfl (.tmp 85) (.tmp 86) rfl M10.it.few M10.it.x (by decide) C1.it rfl rfl ?_; intro fq2 fl2 fc2 w11 R11 S11
           have M11 := Aside.mk (M10.it.appA R11.it S11.it)
           clear R11 S11)
        | (at_builtin; refine wpList_appendLL rfl (.tmp 88) (.tmp 89) rfl M11.it.many M11.it.y (by decide) C2.it rfl rfl ?_; intro nq2 nl2 nc2 w12 R12 S12
           have M12 := Aside.mk (M11.it.appB R12.it S12.it)
           clear R12 S12)
        | fail)
      have B12 : Aside (Below w.heap.size w w12) := ⟨B1.it.trans (M12.it.g.g.bel.mono B1.it.size)⟩
      obtain ⟨F', hF'⟩ : ∃ F', F ++ z.ns = F' := ⟨_, rfl⟩
      obtain ⟨own12, MD⟩ : ∃ own12, Aside (Mo A w1 own12 w12 p s most mm (parseM most F') (parseM mm F') (.slice fq2 fl2 fc2) (.slice nq2 nl2 nc2) (.slice none 0 0) (.slice none 0 0) (parseM most F').ms (parseM mm F').ms [] []) := ⟨_, ⟨by
        rw [← hF', PP.it.1, PP.it.2]
        have h := M12.it.drop
        exact ⟨h.g, h.r, h.s, h.few, h.many, h.x, h.y⟩⟩⟩
      rw [hF'] at HSU
      clear M10 M11 M12 PP C1 C2 hF' bnd hz41 cz
      obtain ⟨_, _, ef⟩ := MD.it.few.shape
      obtain ⟨_, _, en⟩ := MD.it.many.shape
      obtain ⟨l1, hl1⟩ : ∃ l1, (parseM most F').rest.length = l1 := ⟨_, rfl⟩
      obtain ⟨l2, hl2⟩ : ∃ l2, (parseM mm F').rest.length = l2 := ⟨_, rfl⟩
      obtain ⟨a2, ha2⟩ : ∃ a2, most + 2 = a2 := ⟨_, rfl⟩
      obtain ⟨b2, hb2⟩ : ∃ b2, mm + 2 = b2 := ⟨_, rfl⟩
      have hl1b : l1 ≤ a2 := by rw [← hl1, ← ha2]; exact parseM_rest_len F'
      have hl2b : l2 ≤ b2 := by rw [← hl2, ← hb2]; exact parseM_rest_len F'
      have PX := parseM_mono (HMo.it.2.2) F'
      have hfn : fl2 ≤ nl2 := by
        injection ef with _ e1 _
        injection en with _ e2 _
        rw [e1, e2]
        exact PX.length_le
      have hfl : Aside (fl2 = (parseM most F').ms.length ∧ (parseM most F').ms.length ≤ 1048576 ∧ (parseM mm F').ms.length ≤ 1048576) := ⟨by
        have h1 := cnt_parse most F'
        have h2 := cnt_parse mm F'
        have h3 := HSU.it.2.1
        injection ef with _ e1 _
        exact ⟨e1, by omega, by omega⟩⟩
      have hnc : nl2 ≤ nc2 := by
        obtain ⟨vs, ⟨a', c', e, hl, _⟩, _, _, h4⟩ := MD.it.many.rdl (own' := fun _ => 9) (d' := 9) (fun _ _ => rfl)
        injection e with e1 e2 e3
        omega
      have SM := Aside.mk (show ∀ W', Keeps Nowhere w12 W' → Calls Tryd.prog 10 #[.slice fq2 fl2 fc2, .slice nq2 fl2 nc2] W' fun e w' => e = .returned (.bool true) ∧ ∃ m, w' = W'.drewN m from fun W' k => by
        have hx := (MD.it.quiet k).few.rdl (own' := fun _ => 9) (d' := 9) (fun _ _ => rfl)
        have hy := ((MD.it.quiet k).many.rdl (own' := fun _ => 9) (d' := 9) (fun _ _ => rfl)).take fl2 (by rw [hfl.it.1]; exact PX.length_le)
        have hb := HSU.it.2.2.2
        have := same27 hx hy (bytes_parse hb) (fun y hy => bytes_parse hb y (List.mem_of_mem_take hy)) (by have := hfl.it.2.1; omega) (by rw [List.length_take]; have := hfl.it.2.2; omega)
        rw [decide_eq_true (by rw [hfl.it.1]; exact List.prefix_iff_eq_take.1 PX)] at this
        exact this)
      have H1 := Aside.mk (show ∀ W', Keeps Nowhere w12 W' → Calls Tryd.prog 9 #[ptr p] W' fun e w' => e = .returned (.int .i64 l1) ∧ ∃ m, w' = W'.drewN m from fun W' k => by
        have := heldM (MD.it.quiet k).r
        rw [hl1] at this
        exact this)
      have H2 := Aside.mk (show ∀ W', Keeps Nowhere w12 W' → Calls Tryd.prog 9 #[ptr s] W' fun e w' => e = .returned (.int .i64 l2) ∧ ∃ m, w' = W'.drewN m from fun W' k => by
        have := heldM (MD.it.quiet k).s
        rw [hl2] at this
        exact this)
      have g1 : decide ((l1 : Int) < 0) = false := by simp
      have r1 : IntKind.i64.wrap ((most : Int) + 2) = (a2 : Int) := by have := HMo.it.1; rw [IntKind.wrap_i64]; omega
      have r2 : IntKind.i64.wrap ((mm : Int) + 2) = (b2 : Int) := by have := HMo.it.2.1; rw [IntKind.wrap_i64]; omega
      have g2 : decide ((a2 : Int) < (l1 : Int)) = false := by simp; omega
      have g3 : decide ((b2 : Int) < (l2 : Int)) = false := by simp; omega
      have g4 : decide ((nl2 : Int) < (fl2 : Int)) = false := by simp; omega
      have hlt3 := Aside.mk hfn
      have hnc3 := Aside.mk hnc
      clear ef en hl1 hl2 ha2 hb2 PX
      go_upto_region 18 with (first
        | (go_at_call 10; refine (SM.it _ (by first | exact Keeps.refl _ _ | exact (Keeps.refl _ _).drewN _ | exact ((Keeps.refl _ _).drewN _).drewN _ | exact (((Keeps.refl _ _).drewN _).drewN _).drewN _)).mono ?_; rintro e w16 ⟨rfl, m16, rfl⟩)
        | (go_at_call_of 9 (ptr p); refine (H1.it _ (by first | exact Keeps.refl _ _ | exact (Keeps.refl _ _).drewN _ | exact ((Keeps.refl _ _).drewN _).drewN _)).mono ?_; rintro e w13 ⟨rfl, m13, rfl⟩)
        | (go_at_call_of 9 (ptr s); refine (H2.it _ (by first | exact Keeps.refl _ _ | exact (Keeps.refl _ _).drewN _ | exact ((Keeps.refl _ _).drewN _).drewN _)).mono ?_; rintro e w15 ⟨rfl, m15, rfl⟩)
        | fail)
      go_wp2
      go_roundw
      case rel => exact ⟨i + 1, own12, F', fq2, fl2, fc2, nq2, nl2, nc2, rfl, rfl, by go_num, by omega, ⟨MD.it.quiet (by first | exact (Keeps.refl _ _).drewN _ | exact ((((Keeps.refl _ _).drewN _).drewN _).drewN _).drewN _), HSU.it.2.2.2, HSU.it.1⟩⟩
      case measure => simp [natV]; omega
theorem msgMost_bad (most more : Int) (hm : most < 0 ∨ more < 0 ∨ 1048576 < most ∨ 1048576 - most < more) (q : Option Addr) (L c : Nat) (hs : Sents 76 codeVars A w) :
    Calls Tryd.prog 3 #[.int .i64 most, .int .i64 more, .slice q L c] w fun e w' => e = .returned (.bool true) ∧ Below w.heap.size w w' := by
  have F := Aside.mk (fixed27 hs)
  clear hs
  by_cases h1 : most < 0
  · clear hm
    go_enter Tryd.func3, Tryd.ntmps3
    go_wp2_with (first | (go_at_call 6; refine F.it.mono ?_; clear F; rintro e w1 ⟨rfl, B1⟩) | fail)
    go_ret
    exact ⟨rfl, B1.it⟩
  · have h1' : 0 ≤ most := by omega
    by_cases h2 : more < 0
    · clear hm
      go_enter Tryd.func3, Tryd.ntmps3
      go_wp2_with (first | (go_at_call 6; refine F.it.mono ?_; clear F; rintro e w1 ⟨rfl, B1⟩) | fail)
      go_ret
      exact ⟨rfl, B1.it⟩
    · have h2' : 0 ≤ more := by omega
      by_cases h3 : 1048576 < most
      · have h3' : ¬ most ≤ 1048576 := by omega
        clear hm
        go_enter Tryd.func3, Tryd.ntmps3
        go_wp2_with (first | (go_at_call 6; refine F.it.mono ?_; clear F; rintro e w1 ⟨rfl, B1⟩) | fail)
        go_ret
        exact ⟨rfl, B1.it⟩
      · have h3' : most ≤ 1048576 := by omega
        have h4 : 1048576 - most < more := by omega
        have h4' : ¬ more ≤ 1048576 - most := by omega
        have q0 : IntKind.i64.wrap (1048576 - most) = 1048576 - most := by rw [IntKind.wrap_i64]; omega
        clear hm
        go_enter Tryd.func3, Tryd.ntmps3
        go_wp2_with (first | (go_at_call 6; refine F.it.mono ?_; clear F; rintro e w1 ⟨rfl, B1⟩) | fail)
        go_ret
        exact ⟨rfl, B1.it⟩
theorem msgMost_walkU (most more : Int) (v : Value) (zs : List PcV) (w : World) (hs : Sents 76 codeVars A w) (hz : PiecesArg w v zs) :
    Calls Tryd.prog 3 #[.int .i64 most, .int .i64 more, v] w fun e w' => e = .returned (.bool true) ∧ Below w.heap.size w w' := by
  by_cases h : most < 0 ∨ more < 0 ∨ 1048576 < most ∨ 1048576 - most < more
  · obtain ⟨_, _, sa, sc, rfl, _⟩ := hz
    exact msgMost_bad most more h _ _ _ hs
  · obtain ⟨a, rfl⟩ := Int.eq_ofNat_of_zero_le (show 0 ≤ most by omega)
    obtain ⟨b, rfl⟩ := Int.eq_ofNat_of_zero_le (show 0 ≤ more by omega)
    exact msgMost_good a b (by omega) v zs hs hz
end
end Go.Proofs.YtllioaclnkkhhabDoor
