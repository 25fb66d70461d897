/-
  package robin at law 12's keys: leave, Remove
-/
import Derived.Test.YtekokdfajbajoaaDoorRkB
import Derived.LaidEqlPtr
namespace Go.Proofs.YtekokdfajbajoaaDoor.Rbkey
open Go.RowKit

variable {w w' : World} {own own' : Nat → Nat} {i r mb s x z b p q j : Nat} {l : List Nat} {kf : Nat → Int} {pf nf : Nat → Option Nat} {k : Int} {ks : List Int} {F : Int → Option Nat}

theorem info_seat : ∃ j, Tryd.prog.info? 60 = some j ∧ j.size ≠ 0 := by
  have h : ((Tryd.prog.info? 60).map fun j => decide (j.size ≠ 0)) = some true := by kernel_rfl
  cases e : Tryd.prog.info? 60 with
  | none => rw [e] at h; cases h
  | some j => rw [e] at h; exact ⟨j, rfl, of_decide_eq_true (Option.some.inj h)⟩
theorem seat_same (w : World) (b : Nat) : (binOp BinOp.eql 52 (ptr b) (ptr b)).run Tryd.prog w = .ok (.bool true) w := by
  obtain ⟨j, h, _⟩ := info_seat
  exact run_eql_ptr_same w _ Tryd.underlying52 h
theorem seat_other {xs ys : List Value} (hne : x ≠ b) (h1 : Cells w x 60 xs) (h2 : Cells w b 60 ys) : (binOp BinOp.eql 52 (ptr x) (ptr b)).run Tryd.prog w = .ok (.bool false) w := by
  obtain ⟨j, h, hs⟩ := info_seat
  exact run_eql_ptr_other w Tryd.underlying52 h hs (fun e => by cases e; exact hne rfl) h1 h2
set_option maxHeartbeats 1000000 in
theorem leave_ (hb : Cells w r 54 [.map (some mb), vF l[0]?]) (hst : Sts w l kf pf nf) (hn : l.Nodup) (hr : Rg l pf nf) (hj : l[j]? = some b) (hm : MapB w mb (l.length - 1) F) :
    Calls Tryd.prog 26 #[ptr r, ptr b] w fun e w' => e = .returned (.tuple #[]) ∧ ∃ pf' nf', Cells w' r 54 [.map (some mb), vF (l.eraseIdx j)[0]?] ∧ Sts w' (l.eraseIdx j) kf pf' nf' ∧ Rg (l.eraseIdx j) pf' nf' ∧ Keeps (fun c => c = r ∨ c ∈ l) w w' := by
  have bm := List.mem_of_getElem? hj
  obtain ⟨p, ep, pm⟩ := hr.ahead bm
  obtain ⟨q, eq, qm⟩ := hr.behind bm
  have hbc := hst b bm
  rw [ep, eq] at hbc
  have hpc := hst p pm
  have hqc := hst q qm
  have c1 : w.cell? ⟨b, 2, none⟩ = some (ptr p) := hbc.cell 2
  have c2 : w.cell? ⟨b, 3, none⟩ = some (ptr q) := hbc.cell 3
  have c3 : w.cell? ⟨p, 3, none⟩ = some (vF (nf p)) := hpc.cell 3
  have c4 : w.cell? ⟨q, 2, none⟩ = some (vF (pf q)) := hqc.cell 2
  have f1 : ∀ j, w.frozen? ⟨p, j, none⟩ = false := hpc.frozen
  have f2 : ∀ j, w.frozen? ⟨q, j, none⟩ = false := hqc.frozen
  have H := Aside.mk (And.intro hb (And.intro hst (And.intro hm (And.intro hbc (And.intro hpc hqc)))))
  clear hb hst hbc hpc hqc hm
  go_enter Tryd.func26, Tryd.ntmps26
  apply wp_seq
  go_region
  obtain ⟨hb, hst, hm, hbc, hpc, hqc⟩ := H.it
  have np : r ≠ p := ne_box hb hpc
  have nq : r ≠ q := ne_box hb hqc
  have mp : mb ≠ p := map_ne hm hpc
  have mq : mb ≠ q := map_ne hm hqc
  have mr : mb ≠ r := map_ne hm hb
  generalize hW : World.drew ((w.setCell ⟨p, 3, none⟩ (.pointer (some ⟨q, 0, none⟩))).setCell ⟨q, 2, none⟩ (.pointer (some ⟨p, 0, none⟩))) = w2
  have K2 : Keeps (fun c => c ∈ l) w w2 := by
    rw [← hW]
    exact (((Keeps.refl _ _).setCell _ _ (fun _ => pm)).setCell _ _ (fun _ => qm)).drew
  have S2 : Sts w2 l kf (upd pf q (some p)) (upd nf p (some q)) := by
    rw [← hW]
    exact fun c hc => (((hst.setN (b := p) (o := some q)).setP (b := q) (o := some p)) c hc).drew
  have nl : r ∉ l := fun hm => ne_box hb (hst r hm) rfl
  have ml : mb ∉ l := fun h => map_ne hm (hst mb h) rfl
  have B2 : Cells w2 r 54 [.map (some mb), vF l[0]?] := hb.later K2 nl
  have M2 : MapB w2 mb (l.length - 1) F := hm.later K2 ml
  have R2 := hr.erase hn hj ep eq
  have hb2 := S2 b bm
  have enb : upd nf p (some q) b = some q := by
    unfold upd
    split
    · rfl
    · exact eq
  rw [enb] at hb2
  have T2 : Sts w2 (l.eraseIdx j) kf (upd pf q (some p)) (upd nf p (some q)) := fun c hc => S2 c (List.mem_of_mem_eraseIdx hc)
  obtain ⟨x, hx⟩ : ∃ x, l[0]? = some x := ⟨_, List.getElem?_eq_getElem (by have := lt_of_some hj; omega)⟩
  rw [hx] at B2
  have E1 : ∀ c, (binOp BinOp.eql 52 (ptr c) (ptr c)).run Tryd.prog w2 = .ok (.bool true) w2 := seat_same w2
  have E2 : x ≠ b → (binOp BinOp.eql 52 (ptr x) (ptr b)).run Tryd.prog w2 = .ok (.bool false) w2 := fun e => seat_other e (S2 x (List.mem_of_getElem? hx)) (S2 b bm)
  have d0 : w2.cell? ⟨r, 0, none⟩ = some (.map (some mb)) := B2.cell 0
  have d1 : w2.cell? ⟨r, 1, none⟩ = some (ptr x) := B2.cell 1
  have d2 : w2.cell? ⟨b, 3, none⟩ = some (ptr q) := hb2.cell 3
  have f3 : ∀ j, w2.frozen? ⟨r, j, none⟩ = false := B2.frozen
  have K3 : Keeps (fun c => c = r) w2 (w2.setCell ⟨r, 1, none⟩ (ptr q)) := (Keeps.refl _ _).setCell _ _ (fun _ => rfl)
  have B3 : Cells (w2.setCell ⟨r, 1, none⟩ (ptr q)) r 54 [.map (some mb), ptr q] := B2.setCell 1 (ptr q)
  have L2 := M2.len 3
  have L3 := (M2.later K3 mr).len 3
  have G := Aside.mk (And.intro K2 (And.intro T2 (And.intro R2 (And.intro B2 (And.intro B3 (And.intro K3 nl))))))
  have hlt := lt_of_some hj
  have hh := erase_head (nf := nf) (pf := pf) hj hn eq hr
  clear K2 S2 B2 M2 R2 T2 B3 K3 nl ml mr mp mq np nq hb hst hm hbc hpc hqc hb2 c1 c2 c3 c4 f1 f2 hW enb
  simp only [Exit.then]
  by_cases h1 : l.length = 1
  · have e0 : ((l.length - 1 : Nat) : Int) = 0 := by omega
    rw [e0] at L2 L3
    obtain rfl : j = 0 := by omega
    obtain rfl : b = x := by rw [hj] at hx; exact Option.some.inj hx
    clear E2
    go_wp2
    go_end0
    obtain ⟨K2, T2, R2, B2, B3, K3, nl⟩ := G.it
    have el : l.eraseIdx 0 = [] := List.eq_nil_of_length_eq_zero (by rw [List.length_eraseIdx_of_lt (by omega)]; omega)
    refine ⟨rfl, _, _, ?_, ?_, R2, ?_⟩
    · rw [el]; exact B3.setCell 1 (.pointer none)
    · rw [el]; exact fun _ h => by simp at h
    · exact ((K2.mono (fun _ h _ => .inr h)).setCell ⟨r, 1, none⟩ (ptr q) (fun _ => .inl rfl)).setCell ⟨r, 1, none⟩ (.pointer none) (fun _ => .inl rfl)
  · have e0 : ¬ ((l.length - 1 : Nat) : Int) = 0 := by omega
    have hh := hh h1
    by_cases hxb : x = b
    · subst hxb
      clear E2
      rw [hx, if_pos rfl] at hh
      go_wp2
      go_end0
      obtain ⟨K2, T2, R2, B2, B3, K3, nl⟩ := G.it
      refine ⟨rfl, _, _, ?_, fun c hc => (T2 c hc).setOther _ _ (fun e => nl (by rw [← (show c = r from e)]; exact List.mem_of_mem_eraseIdx hc)), R2, ?_⟩
      · rw [hh]; exact B3
      · exact (K2.mono (fun _ h _ => .inr h)).setCell ⟨r, 1, none⟩ (ptr q) (fun _ => .inl rfl)
    · rw [hx, if_neg (fun e => hxb (Option.some.inj e))] at hh
      have E2 := E2 hxb
      go_wp2
      go_end0
      obtain ⟨K2, T2, R2, B2, B3, K3, nl⟩ := G.it
      refine ⟨rfl, _, _, ?_, T2, R2, K2.mono (fun _ h _ => .inr h)⟩
      rw [hh]; exact B2
theorem remove_none (h : RbI w r mb l kf pf nf) (hk : Ky k) (hm : fk l kf k = none) : Calls Tryd.prog 10 #[ptr r, kv k] w fun e w' => e = .returned (.bool false) ∧ Keeps Nowhere w w' := by
  obtain ⟨w1, hw1⟩ : ∃ w1, w1 = w.alloc (.cells #[kt k, kn k] 28) := ⟨_, rfl⟩
  obtain ⟨g, hg⟩ : ∃ g, g = w.heap.size := ⟨_, rfl⟩
  have k1 : Keeps Nowhere w w1 := by rw [hw1]; exact (Keeps.refl _ _).alloc _
  have hc : Cells w1 g 28 [kt k, kn k] := by rw [hw1, hg]; exact Cells.new w _ _
  have d0 : w1.cell? ⟨g, 0, none⟩ = some (kt k) := hc.cell 0
  have d1 : w1.cell? ⟨g, 1, none⟩ = some (kn k) := hc.cell 1
  have hf := find_ (h.later k1 (fun x => x) (fun x => x) (fun _ _ x => x)) hk
  rw [hm] at hf
  simp only [vF] at hf
  have HF := Aside.mk hf
  have K1 := Aside.mk k1
  clear h hc k1 hf
  go_enter Tryd.func10, Tryd.ntmps10
  go_upto_region 1 with fail
  rw [← hg, ← hw1]
  clear hg hw1
  go_upto_region 2 with (first | (go_at_call 24; refine HF.it.mono ?_; clear HF; rintro e w2 ⟨rfl, k2⟩; have K2 := Aside.mk k2; clear k2) | fail)
  go_wp2
  go_ret
  exact ⟨rfl, K1.it.trans K2.it⟩
theorem remove_some (h : RbI w r mb l kf pf nf) (hk : Ky k) (hm : fk l kf k = some b) (hj : l[j]? = some b) : Calls Tryd.prog 10 #[ptr r, kv k] w fun e w' => e = .returned (.bool true) ∧ ∃ pf' nf', Aside (RbI w' r mb (l.eraseIdx j) kf pf' nf') ∧ Aside (Keeps (fun c => c = r ∨ c = mb ∨ c ∈ l) w w') := by
  obtain ⟨w1, hw1⟩ : ∃ w1, w1 = w.alloc (.cells #[kt k, kn k] 28) := ⟨_, rfl⟩
  obtain ⟨g, hg⟩ : ∃ g, g = w.heap.size := ⟨_, rfl⟩
  have k1 : Keeps Nowhere w w1 := by rw [hw1]; exact (Keeps.refl _ _).alloc _
  have hc : Cells w1 g 28 [kt k, kn k] := by rw [hw1, hg]; exact Cells.new w _ _
  have d0 : w1.cell? ⟨g, 0, none⟩ = some (kt k) := hc.cell 0
  have d1 : w1.cell? ⟨g, 1, none⟩ = some (kn k) := hc.cell 1
  have hf := find_ (h.later k1 (fun x => x) (fun x => x) (fun _ _ x => x)) hk
  obtain ⟨bm, eb⟩ := fk_some hm
  have hlt := lt_of_some hj
  rw [hm] at hf
  simp only [vF] at hf
  have HF := Aside.mk hf
  have K1 := Aside.mk k1
  have H0 := Aside.mk h
  have HC := Aside.mk hc
  clear h hc k1 hf
  go_enter Tryd.func10, Tryd.ntmps10
  go_upto_region 1 with fail
  rw [← hg, ← hw1]
  clear hg hw1
  go_upto_region 4 with (first | (go_at_call 24; refine HF.it.mono ?_; clear HF; rintro e w2 ⟨rfl, k2⟩; have K2 := Aside.mk k2; clear k2) | fail)
  clear d0 d1
  have k02 : Keeps Nowhere w w2 := K1.it.trans K2.it
  have hc2 := HC.it.later K2.it (fun x => x)
  have d0 : w2.cell? ⟨g, 0, none⟩ = some (kt k) := hc2.cell 0
  have d1 : w2.cell? ⟨g, 1, none⟩ = some (kn k) := hc2.cell 1
  have k2d : Keeps Nowhere w2 w2.drew := (Keeps.refl _ _).drew
  have h2 := H0.it.later k02 (fun x => x) (fun x => x) (fun _ _ x => x)
  have h := h2.later k2d (fun x => x) (fun x => x) (fun _ _ x => x)
  have c0 : w2.cell? ⟨r, 0, none⟩ = some (.map (some mb)) := h2.box.cell 0
  obtain ⟨w3, hdel, hm2, k3⟩ := h.map.drop hk hm
  have nr : r ≠ mb := fun e => map_ne h.map h.box e.symm
  have nl : ∀ c ∈ l, c ≠ mb := fun c hc e => map_ne h.map (h.seats c hc) e.symm
  have j1 := leave_ (h.box.later k3 nr) (fun c hc => (h.seats c hc).later k3 (nl c hc)) h.nodup h.ring hj hm2
  rw [← fk_erase h.keys h.nodup hj eb] at hm2
  have H := Aside.mk (And.intro h (And.intro hm2 (And.intro ((k02.trans k2d).any.next k3 (fun c e _ => .inr (.inl e)) : Keeps (fun c => c = r ∨ c = mb ∨ c ∈ l) w w3) (And.intro nr nl))))
  have J1 := Aside.mk j1
  clear h hm2 k3 nr nl j1 h2 k02 k2d hc2 K1 K2 HC H0
  go_region
  go_upto_region 6 with (first | (go_at_call 26; refine J1.it.mono ?_; clear J1; rintro e w4 ⟨rfl, pf', nf', hb, hst, hr, hk⟩; have J := Aside.mk (And.intro hb (And.intro hst (And.intro hr hk))); clear hb hst hr hk) | fail)
  go_wp2
  go_ret
  obtain ⟨h, hm2, k2, nr, nl⟩ := H.it
  obtain ⟨hb, hst, hr, k3⟩ := J.it
  have sub : ∀ c ∈ l.eraseIdx j, c ∈ l := fun c hc => List.mem_of_mem_eraseIdx hc
  refine ⟨rfl, pf', nf', ⟨hb, ?_, hst, h.nodup.eraseIdx j, fun a ha c hc => h.keys a (sub a ha) c (sub c hc), fun c hc => h.ky c (sub c hc), hr⟩, ⟨?_⟩⟩
  · rw [List.length_eraseIdx_of_lt hlt]
    refine hm2.later k3 ?_
    rintro (e | e)
    · exact nr e.symm
    · exact nl mb e rfl
  · refine k2.next k3 ?_
    rintro c (e | e) _
    · exact .inl e
    · exact .inr (.inr e)
end Go.Proofs.YtekokdfajbajoaaDoor.Rbkey
