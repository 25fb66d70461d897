/-
  package lru (lnn): Keys, Expire
-/
import Derived.Test.YthjeeianlgkaaaaDoorLuElnn
import Derived.Test.YthjeeianlgkaaaaDoorMkB
namespace Go.Proofs.YthjeeianlgkaaaaDoor.Lulnn
open Go.RowKit

variable {w w' : World} {own own' : Nat → Nat} {i c mb eb s b p q j : Nat} {l : List Nat} {f : Nat → Rx} {pf nf : Nat → Option Nat} {room k now W : Int} {L M : List Rx} {I : Nat → Prop} {A : Nat → Addr} {x : Rx} {er : Value}

theorem keys_nil (w : World) : Calls Tryd.prog 31 #[.pointer none] w fun e w' => e = .returned (.slice none 0 0) ∧ w' = w := by
  go_enter Tryd.func31, Tryd.ntmps31
  go_wp2
  go_ret
  exact ⟨rfl, rfl⟩
theorem expire_nil (now : Int) (w : World) : Calls Tryd.prog 14 #[.pointer none, .int .i64 now] w fun e w' => e = .returned (.slice none 0 0) ∧ w' = w := by
  go_enter Tryd.func14, Tryd.ntmps14
  go_wp2
  go_ret
  exact ⟨rfl, rfl⟩
/-- where the j-th of the order is told: behind its forerunner -/
theorem nf_at (h : Rg (eb :: l) pf nf) (j : Nat) : ∀ b, (eb :: l)[j]? = some b → nf b = some ((l ++ [eb])[j]?.getD eb) := by
  intro b hj
  have hlt := lt_of_some hj
  rw [(h j b hj).1]
  unfold nx
  rw [List.length_cons] at hlt ⊢
  split
  · have : j = l.length := by omega
    subst this
    simp
  · rw [List.getElem?_cons_succ, List.getElem?_append_left (by omega), List.getElem?_eq_getElem (by omega)]
    rfl
def atB (eb : Nat) (l : List Nat) (j : Nat) : Nat := (l[j]?).getD eb
theorem nf_atB (h : Rg (eb :: l) pf nf) (j : Nat) (hj : j < l.length) : ∃ b, l[j]? = some b ∧ atB eb l j = b ∧ nf b = some (atB eb l (j + 1)) := by
  refine ⟨l[j], List.getElem?_eq_getElem hj, by unfold atB; rw [List.getElem?_eq_getElem hj]; rfl, ?_⟩
  rw [nf_at h (j + 1) l[j] (by rw [List.getElem?_cons_succ]; exact List.getElem?_eq_getElem hj)]
  unfold atB
  by_cases h1 : j + 1 < l.length
  · rw [List.getElem?_append_left h1, List.getElem?_eq_getElem h1]
  · have : j + 1 = l.length := by omega
    rw [this, List.getElem?_append_right (Nat.le_refl _), List.getElem?_eq_none (Nat.le_refl _), Nat.sub_self]
    rfl
theorem nf_at0 (h : Rg (eb :: l) pf nf) : nf eb = some (atB eb l 0) := by
  rw [nf_at h 0 eb rfl]
  unfold atB
  cases l <;> rfl
theorem atB_end : atB eb l l.length = eb := by unfold atB; rw [List.getElem?_eq_none (Nat.le_refl _)]; rfl
theorem atB_ne (hn : (eb :: l).Nodup) (hj : j < l.length) : atB eb l j ≠ eb := by
  unfold atB
  rw [List.getElem?_eq_getElem hj]
  intro e
  exact (List.nodup_cons.1 hn).1 (e ▸ List.getElem_mem hj)
theorem info_th : ∃ j, Tryd.prog.info? 79 = some j ∧ j.size ≠ 0 := by
  have h : ((Tryd.prog.info? 79).map fun j => decide (j.size ≠ 0)) = some true := by kernel_rfl
  cases e : Tryd.prog.info? 79 with
  | none => rw [e] at h; cases h
  | some j => rw [e] at h; exact ⟨j, rfl, of_decide_eq_true (Option.some.inj h)⟩
theorem th_same (w : World) (b : Nat) : (binOp BinOp.neq 77 (ptr b) (ptr b)).run Tryd.prog w = .ok (.bool false) w := by
  obtain ⟨j, hte, _⟩ := info_th
  have h : ∀ d : Nat, (Op.equalIn (d + 1) 77 (ptr b) (ptr b)).run Tryd.prog w = .ok true w := fun d => by
    simp [Op.equalIn, run_underlying Tryd.underlying77, sizeOf, typeInfo, hte, run_sameAddr_same]
  simp only [binOp]
  simp [Op.equal, Op.maxDepth, h 9999]
theorem th_other {xs ys : List Value} {x : Nat} (hne : x ≠ b) (h1 : Cells w x 79 xs) (h2 : Cells w b 79 ys) : (binOp BinOp.neq 77 (ptr x) (ptr b)).run Tryd.prog w = .ok (.bool true) w := by
  obtain ⟨j, hte, hsz⟩ := info_th
  have h : ∀ d : Nat, (Op.equalIn (d + 1) 77 (ptr x) (ptr b)).run Tryd.prog w = .ok false w := fun d => by
    simp [Op.equalIn, run_underlying Tryd.underlying77, sizeOf, typeInfo, hte, hsz, run_sameAddr_other w (a := ⟨x, 0, none⟩) (b := ⟨b, 0, none⟩) (fun e => by cases e; exact hne rfl) h1 h2]
  simp only [binOp]
  simp [Op.equal, Op.maxDepth, h 9999]
def natP : Value → Nat | .slice _ n _ => n | _ => 0
def blkP : Value → Nat | .pointer (some a) => a.block | _ => 0
theorem idx_atB (hn : (eb :: l).Nodup) (hj : j ≤ l.length) : l.idxOf (atB eb l j) = j := by
  rcases Nat.eq_or_lt_of_le hj with rfl | hlt
  · rw [atB_end]
    exact List.idxOf_eq_length (List.nodup_cons.1 hn).1
  · unfold atB
    rw [List.getElem?_eq_getElem hlt]
    exact (List.nodup_cons.1 hn).2.idxOf_getElem j hlt
theorem mk_keys (w : World) (n : Nat) (hn : n * 8 ≤ 140737488355328) : ∃ w' c, (Instr.makeSlice 44 (.int .i64 0) (.int .i64 n)).run Tryd.prog w = .ok (.slice (some ⟨w.heap.size, 0, none⟩) 0 c) w' ∧ Aside (w'.ownsRow w.heap.size 3 1 (.slice (some ⟨w.heap.size, 0, none⟩) 0 c) 0 []) ∧ Aside (Keeps Nowhere w w') := by
  obtain ⟨i, hi, hz0, hz1, hz2⟩ := info_parts infoK
  have h := run_make (P := Tryd.prog) w 44 3 i _ Tryd.underlying44 hi hz0 .i64 .i64 0 n (by omega) (by omega) (by rw [hz2]; omega) (by omega)
  refine ⟨_, _, h, ⟨?_⟩, ⟨(Keeps.refl _ _).alloc _⟩⟩
  exact World.ownsRow_made w _ _ (Nat.le_refl _) (by unfold maxLen; omega) (by simp [madeCells, hz1])
theorem Rx_take_snoc {x : Rx} (h : L[j]? = some x) : L.take (j + 1) = L.take j ++ [x] := by rw [List.take_add_one, h]; rfl
theorem map_at (hb : l[j]? = some b) : (l.map f)[j]? = some (f b) := by rw [List.getElem?_map, hb]; rfl
set_option maxHeartbeats 2000000 in
set_option maxRecDepth 20000 in
theorem keys_ (h : CaI w c mb eb l f pf nf room) (hmax : l.length * 8 ≤ 140737488355328) :
    Calls Tryd.prog 31 #[ptr c] w fun e w' => ∃ v, e = .returned v ∧ Aside (w'.ownsRow w.heap.size 3 1 v l.length (rk (l.map f))) ∧ Aside (Keeps Nowhere w w') := by
  have c2 : w.cell? ⟨c, 2, none⟩ = some (.map (some mb)) := h.box.cell 2
  have hl := h.map.len 3
  have H := Aside.mk h
  obtain ⟨w1, q1, hmk, O1, K1⟩ := mk_keys w l.length hmax
  have c3 : w1.cell? ⟨c, 3, none⟩ = some (ptr eb) := (h.quiet K1.it).box.cell 3
  have e1 : w1.cell? ⟨eb, 5, none⟩ = some (ptr (atB eb l 0)) := by
    have := ((h.quiet K1.it).sts eb List.mem_cons_self).cell 5
    rw [nf_at0 h.ring] at this
    exact this
  clear h
  go_enter Tryd.func31, Tryd.ntmps31
  go_upto_region 3 with fail
  go_upto_region 4 with (first | (go_in; refine wpList_make0 rfl _ _ rfl l.length rfl w1 _ hmk ?_) | fail)
  go_upto_region 5 with fail
  go_loopw [3, 4] (fun gv tv wr => ∃ (m : Nat) (ga : Option Addr) (gc : Nat), gv = .slice ga m gc ∧ tv = ptr (atB eb l m) ∧ m ≤ l.length ∧ Aside (wr.ownsRow w.heap.size 3 1 (.slice ga m gc) m (rk ((l.map f).take m))) ∧ Aside (Keeps Nowhere w wr)) (fun gv _ _ => l.length - natP gv)
  case atStart => exact ⟨0, _, _, rfl, rfl, Nat.zero_le _, O1, K1⟩
  case round =>
    obtain ⟨m, ga, gc, rfl, rfl, hm, O, K⟩ := hrel
    have C := H.it.quiet K.it
    have c3 : wr.cell? ⟨c, 3, none⟩ = some (ptr eb) := C.box.cell 3
    rcases Nat.eq_or_lt_of_le hm with rfl | hlt
    · rw [atB_end]
      have NQ := th_same wr eb
      clear e1 C hmk hl
      go_wp2_with fail
      go_ret
      refine ⟨_, rfl, ⟨?_⟩, K⟩
      have r := O.it
      rw [List.take_of_length_le (by rw [List.length_map]; exact Nat.le_refl _)] at r
      exact r
    · obtain ⟨b, hb, eb', en⟩ := nf_atB C.ring m hlt
      have hne := atB_ne C.nodup hlt
      rw [eb'] at hne ⊢
      have B := C.sts b (List.mem_cons_of_mem _ (List.mem_of_getElem? hb))
      have HB := Aside.mk hb
      have k1 := B.cell 0
      have k2 := B.cell 1
      simp only [List.getElem?_cons_zero, List.getElem?_cons_succ] at k1 k2
      have NQ := th_other (b := eb) hne B (C.sts eb List.mem_cons_self)
      have b1 : (m + 1) * 8 ≤ 140737488355328 := Nat.le_trans (Nat.mul_le_mul_right _ hlt) hmax
      have b2 : m + 1 ≤ maxLen := Nat.le_of_lt_succ (Nat.lt_succ_of_lt (lt_max b1))
      have H' : Aside (∀ w', Keeps Nowhere w w' → w'.cell? ⟨b, 5, none⟩ = some (ptr (atB eb l (m + 1)))) := ⟨fun w' k => by
        have := ((H.it.quiet k).sts b (List.mem_cons_of_mem _ (List.mem_of_getElem? HB.it))).cell 5
        rw [en] at this
        exact this⟩
      clear e1 C hmk hl hb en hne B
      go_wp2_with (first
        | (at_builtin; refine wpList_appendR rfl _ _ 44 rfl 3 (.int .i64 0) 1 8 Tryd.underlying44 infoK rfl (by decide) wr ((Keeps.refl _ _).alloc _) w.heap.size _ m _ O.it _ 1 (kcs (f b).k) (readsK_new wr 3 (kcs (f b).k)) rk_cells b1 b2 K.it.size rfl rfl ?_
           intro v' w' o5 k5 b5
           have K5 : Aside (Keeps Nowhere w w') := ⟨(K.it.alloc _).next k5.it (fun x e hlt => by have := owns_base O.it x e; omega)⟩
           have y1 := H'.it w' K5.it)
        | fail)
      go_roundw
      case rel =>
        obtain ⟨p1, p2, p3, hv'⟩ := owns_shapeK o5.it
        obtain rfl : p2 = m + 1 := by
          rcases o5.it.2 with ⟨e, h0⟩ | ⟨g, cap, cur, e, _⟩
          · exact absurd h0 (by omega)
          · rw [hv'] at e; injection e
        subst hv'
        refine ⟨m + 1, p1, p3, rfl, rfl, hlt, ⟨?_⟩, K5⟩
        rw [Rx_take_snoc (map_at HB.it), rk_append, rk_one]
        exact o5.it
      case measure =>
        obtain ⟨p1, p2, p3, hv'⟩ := owns_shapeK o5.it
        obtain rfl : p2 = m + 1 := by
          rcases o5.it.2 with ⟨e, h0⟩ | ⟨g, cap, cur, e, _⟩
          · exact absurd h0 (by omega)
          · rw [hv'] at e; injection e
        subst hv'
        show l.length - (m + 1) < l.length - m
        omega
theorem stay_snoc (now : Int) {j : Nat} (h : L[j]? = some x) : stayL (L.take (j + 1)) now = stayL (L.take j) now ++ (if now < x.u then [x] else []) := by
  rw [Rx_take_snoc h]
  unfold stayL
  rw [List.filter_append]
  by_cases e : now < x.u <;> simp [e]
theorem old_snoc (now : Int) {j : Nat} (h : L[j]? = some x) : oldL (L.take (j + 1)) now = oldL (L.take j) now ++ (if now < x.u then [] else [x]) := by
  rw [Rx_take_snoc h]
  unfold oldL
  rw [List.filter_append]
  by_cases e : now < x.u <;> simp [e]
theorem old_le (now : Int) (j : Nat) : (oldL (L.take j) now).length ≤ j := by
  have h1 : (oldL (L.take j) now).length ≤ (L.take j).length := List.length_filter_le _ _
  rw [List.length_take] at h1
  omega
/-- a walk that lets go: where it stands (m of lc, j of l) -/
structure Ex (w wr : World) (c mb eb : Nat) (l lc : List Nat) (f : Nat → Rx) (pf nf : Nat → Option Nat) (room now : Int) (m j : Nat) (gv : Value) : Prop where
  ca : CaI wr c mb eb lc f pf nf room
  sub : ∀ b ∈ lc, b ∈ l
  tk : (lc.take m).map f = stayL ((l.map f).take j) now
  dp : lc.drop m = l.drop j
  ml : m ≤ lc.length
  row : wr.ownsRow w.heap.size 3 1 gv (oldL ((l.map f).take j) now).length (rk (oldL ((l.map f).take j) now))
  kp : Keeps (Mine c mb eb l) w wr
variable {lc : List Nat} {wr : World} {m : Nat} {gv : Value}
theorem Ex.at (h : Ex w wr c mb eb l lc f pf nf room now m j gv) (i : Nat) : lc[m + i]? = l[j + i]? := by
  have := congrArg (fun z => z[i]?) h.dp
  simpa [List.getElem?_drop] using this
theorem Ex.atB (h : Ex w wr c mb eb l lc f pf nf room now m j gv) (i : Nat) : atB eb lc (m + i) = atB eb l (j + i) := by
  unfold Lulnn.atB
  rw [h.at i]
set_option maxHeartbeats 4000000 in
set_option maxRecDepth 20000 in
theorem expire_ (h : CaI w c mb eb l f pf nf room) (hmax : l.length * 8 ≤ 140737488355328) (now : Int) :
    Calls Tryd.prog 14 #[ptr c, .int .i64 now] w fun e w' => ∃ v l2 pf' nf', e = .returned v ∧ Aside (CaI w' c mb eb l2 f pf' nf' room ∧ l2.map f = stayL (l.map f) now ∧ (∀ b ∈ l2, b ∈ l)) ∧ Aside (w'.ownsRow w.heap.size 3 1 v (oldL (l.map f) now).length (rk (oldL (l.map f) now))) ∧ Aside (Keeps (Mine c mb eb l) w w') := by
  have H := Aside.mk h
  have HM := Aside.mk h.mine
  have c3 : w.cell? ⟨c, 3, none⟩ = some (ptr eb) := h.box.cell 3
  have e1 : w.cell? ⟨eb, 5, none⟩ = some (ptr (atB eb l 0)) := by
    have := (h.sts eb List.mem_cons_self).cell 5
    rw [nf_at0 h.ring] at this
    exact this
  clear h
  go_enter Tryd.func14, Tryd.ntmps14
  go_upto_region 5 with fail
  go_loopw [5, 6] (fun gv tv wr => ∃ (m j : Nat) (lc : List Nat) (pf' nf' : Nat → Option Nat) (ga : Option Addr) (gn gc : Nat), gv = .slice ga gn gc ∧ tv = ptr (atB eb l j) ∧ j ≤ l.length ∧ Aside (Ex w wr c mb eb l lc f pf' nf' room now m j (.slice ga gn gc))) (fun _ tv _ => l.length - l.idxOf (blkP tv))
  case atStart =>
    refine ⟨0, 0, l, pf, nf, none, 0, 0, rfl, rfl, Nat.zero_le _, ⟨H.it, fun _ h => h, rfl, rfl, Nat.zero_le _, ?_, Keeps.refl _ _⟩⟩
    exact World.ownsRow_nil _ _ _ _
  case round =>
    obtain ⟨m, j, lc, pf', nf', ga, gn, gc, rfl, rfl, hj, X⟩ := hrel
    have C := X.it.ca
    have c3 : wr.cell? ⟨c, 3, none⟩ = some (ptr eb) := C.box.cell 3
    rcases Nat.eq_or_lt_of_le hj with rfl | hlt
    · rw [atB_end]
      have NQ := th_same wr eb
      clear e1 C
      go_wp2_with fail
      go_ret
      have e2 := X.it.dp
      rw [List.drop_of_length_le (Nat.le_refl _)] at e2
      have hm : lc.take m = lc := List.take_of_length_le (List.drop_eq_nil_iff.1 e2)
      have tk := X.it.tk
      have row := X.it.row
      rw [hm, List.take_of_length_le (by rw [List.length_map]; exact Nat.le_refl _)] at tk
      rw [List.take_of_length_le (by rw [List.length_map]; exact Nat.le_refl _)] at row
      exact ⟨_, lc, pf', nf', rfl, ⟨X.it.ca, tk, X.it.sub⟩, ⟨row⟩, ⟨X.it.kp⟩⟩
    · have hlc : m < lc.length := by
        have := congrArg List.length X.it.dp
        rw [List.length_drop, List.length_drop] at this
        omega
      obtain ⟨b, hb, eb', en⟩ := nf_atB C.ring m hlc
      have hbl : l[j]? = some b := by rw [← hb]; exact (X.it.at 0).symm
      have hidx : l.idxOf b = j := by
        have := idx_atB H.it.nodup hj
        unfold atB at this
        rw [hbl] at this
        exact this
      have hat : atB eb l j = b := by rw [← eb']; exact (X.it.atB 0).symm
      rw [show atB eb lc (m + 1) = atB eb l (j + 1) from X.it.atB 1] at en
      have hne := atB_ne C.nodup hlc
      rw [eb'] at hne
      rw [hat]
      have B := C.sts b (List.mem_cons_of_mem _ (List.mem_of_getElem? hb))
      have NQ := th_other (b := eb) hne B (C.sts eb List.mem_cons_self)
      have HB := Aside.mk (And.intro hb (And.intro hbl (And.intro hidx hat)))
      have TO := tooOld_ B now
      have k1 := B.cell 5
      rw [en] at k1
      have k1' : wr.cell? ⟨b, 5, none⟩ = some (ptr (atB eb l (j + 1))) := k1
      have LG := Aside.mk (letGo_ C hb)
      clear e1 C hb hbl hat eb' k1 B
      by_cases hu : now < (f b).u
      · rw [show (!decide (now < (f b).u)) = false by simp [hu]] at TO
        clear en hne LG
        go_wp2_with (first | (go_at_call 40; refine TO.mono ?_; rintro e w' ⟨rfl, rfl⟩) | fail)
        go_roundw
        case rel =>
          obtain ⟨hb, hbl, hidx, hat⟩ := HB.it
          refine ⟨m + 1, j + 1, lc, pf', nf', _, _, _, rfl, rfl, hlt, ⟨X.it.ca, X.it.sub, ?_, ?_, hlc, ?_, X.it.kp⟩⟩
          · rw [stay_snoc now (map_at hbl), if_pos hu, ← X.it.tk, List.take_add_one, hb, List.map_append]; rfl
          · rw [← List.drop_drop, X.it.dp, List.drop_drop]
          · rw [old_snoc now (map_at hbl), if_pos hu, List.append_nil]; exact X.it.row
        case measure =>
          show l.length - l.idxOf (atB eb l (j + 1)) < l.length - l.idxOf b
          rw [idx_atB H.it.nodup hlt, HB.it.2.2.1]
          omega
      · rw [show (!decide (now < (f b).u)) = true by simp [hu]] at TO
        have GN : gn = (oldL ((l.map f).take j) now).length := by
          rcases X.it.row.2 with ⟨e, h0⟩ | ⟨g, cap, cur, e, _⟩
          · injection e with e1 e2 e3; omega
          · injection e
        have g1 := old_le (L := l.map f) now j
        have b1 : (gn + 1) * 8 ≤ 140737488355328 := Nat.le_trans (Nat.mul_le_mul_right _ (by omega)) hmax
        have b2 : gn + 1 ≤ maxLen := Nat.le_of_lt_succ (Nat.lt_succ_of_lt (lt_max b1))
        have O : Aside (wr.ownsRow w.heap.size 3 1 (.slice ga gn gc) gn (rk (oldL ((l.map f).take j) now))) := ⟨by have r := X.it.row; rw [← GN] at r; exact r⟩
        have bm : b < w.heap.size := HM.it b (.inr (.inr (List.mem_cons_of_mem _ (List.mem_of_getElem? HB.it.2.1))))
        have EN := Aside.mk en
        clear en hne GN g1 hidx
        go_wp2_with (first
          | (go_at_call 40; refine TO.mono ?_; clear TO NQ; rintro e w' ⟨rfl, rfl⟩)
          | (go_at_call 41; refine LG.it.mono ?_; clear LG; rintro e w3 ⟨rfl, pf2, nf2, J1, J2⟩
             obtain ⟨C3, B3⟩ := J1.it
             rw [EN.it] at B3
             have O3 := Aside.mk (owns_later O.it J2.it (fun x hx e => by
               have h1 := owns_base O.it x hx
               have h2 : x < w.heap.size := (by
                 refine HM.it x ?_
                 rcases e with e | e | e
                 · exact .inl e
                 · exact .inr (.inl e)
                 · rcases List.mem_cons.1 e with e | e
                   · exact .inr (.inr (by rw [e]; exact List.mem_cons_self))
                   · exact .inr (.inr (List.mem_cons_of_mem _ (X.it.sub x e))))
               omega))
             have z0 := B3.cell 0
             have z1 := B3.cell 1
             simp only [List.getElem?_cons_zero, List.getElem?_cons_succ] at z0 z1)
          | (at_builtin; refine wpList_appendR rfl _ _ 44 rfl 3 (.int .i64 0) 1 8 Tryd.underlying44 infoK rfl (by decide) w3 ((Keeps.refl _ _).alloc _) w.heap.size _ gn _ O3.it _ 1 (kcs (f b).k) (readsK_new w3 3 (kcs (f b).k)) rk_cells b1 b2 (Nat.le_trans X.it.kp.size J2.it.size) rfl rfl ?_
             intro v' w' o5 k5 b5
             have kA : Keeps (fun x => w.heap.size ≤ x) w3 w' := (((Keeps.refl _ _).alloc _).trans (k5.it.mono (fun x e _ => owns_base O3.it x e)))
             have y1 : w'.cell? ⟨b, 5, none⟩ = some (ptr (atB eb l (j + 1))) := (B3.later kA (fun e => by omega)).cell 5)
          | fail)
        go_roundw
        case rel =>
          obtain ⟨p1, p2, p3, hv'⟩ := owns_shapeK o5.it
          subst hv'
          obtain ⟨hb, hbl, hidx, hat⟩ := HB.it
          have hml : m ≤ (lc.eraseIdx m).length := by rw [List.length_eraseIdx_of_lt hlc]; omega
          refine ⟨m, j + 1, lc.eraseIdx m, pf2, nf2, p1, p2, p3, rfl, rfl, hlt, ⟨C3.later kA ?_ ?_ ?_, fun x hx => X.it.sub x (List.mem_of_mem_eraseIdx hx), ?_, ?_, hml, ?_, ?_⟩⟩
          · intro e; have := HM.it c (.inl rfl); omega
          · intro e; have := HM.it mb (.inr (.inl rfl)); omega
          · intro x hx e
            have h2 : x < w.heap.size := HM.it x (by
              rcases List.mem_cons.1 hx with e | e
              · exact .inr (.inr (by rw [e]; exact List.mem_cons_self))
              · exact .inr (.inr (List.mem_cons_of_mem _ (X.it.sub x (List.mem_of_mem_eraseIdx e)))))
            omega
          · rw [stay_snoc now (map_at hbl), if_neg (by omega), List.append_nil, ← X.it.tk]
            congr 1
            rw [List.eraseIdx_eq_take_drop_succ, List.take_append_of_le_length (by rw [List.length_take]; omega), List.take_take, Nat.min_self]
          · rw [← List.drop_drop, ← X.it.dp, List.drop_drop, List.eraseIdx_eq_take_drop_succ, List.drop_append_of_le_length (by rw [List.length_take]; omega), List.drop_of_length_le (by rw [List.length_take]; omega), List.nil_append]
          · have o6 := o5.it
            have GN : gn = (oldL ((l.map f).take j) now).length := by
              rcases X.it.row.2 with ⟨e, h0⟩ | ⟨g, cap, cur, e, _⟩
              · injection e with e1 e2 e3; omega
              · injection e
            rw [old_snoc now (map_at hbl), if_neg (by omega), List.length_append, rk_append, rk_one, ← GN]
            exact o6
          · refine (X.it.kp.next J2.it (fun x e _ => ?_)).next kA (fun x e hlt => by omega)
            rcases e with e | e | e
            · exact .inl e
            · exact .inr (.inl e)
            · rcases List.mem_cons.1 e with e | e
              · exact .inr (.inr (by rw [e]; exact List.mem_cons_self))
              · exact .inr (.inr (List.mem_cons_of_mem _ (X.it.sub x e)))
        case measure =>
          show l.length - l.idxOf (atB eb l (j + 1)) < l.length - l.idxOf b
          rw [idx_atB H.it.nodup hlt, HB.it.2.2.1]
          omega
end Go.Proofs.YthjeeianlgkaaaaDoor.Lulnn
