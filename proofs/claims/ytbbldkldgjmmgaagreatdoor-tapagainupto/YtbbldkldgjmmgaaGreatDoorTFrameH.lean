/-
  package frame: Size, Bytes; the document's Size, Bytes.
-/
import Derived.Test.YtbbldkldgjmmgaaGreatDoorTFrameC
import Derived.Test.YtbbldkldgjmmgaaGreatDoorFe2
import Derived.Test.YtbbldkldgjmmgaaGreatDoorBase
namespace Go.Proofs.YtbbldkldgjmmgaaGreatDoor
open Go.RowKit

def szH (t l : Int) : Int := if t = 0 then l else 0
theorem size_any (v t f s l : Int) (w : World) (hl0 : 0 ≤ l) (hl1 : l ≤ 4294967295) :
    Calls Tryz.prog 14 #[hdr v t f s l] w fun e w' => e = .returned (.int .i64 (szH t l)) ∧ w' = w.alloc (hbox v t f s l) := by
  by_cases h : t = 0
  · have h' : Aside (szH t l = l) := ⟨if_pos h⟩
    rw [h'.it]
    go_enter Tryz.func14, Tryz.ntmps14
    go_wp2
    go_ret
    exact ⟨rfl, by rw [h]⟩
  · have h' : Aside (szH t l = 0) := ⟨if_neg h⟩
    rw [h'.it]
    go_enter Tryz.func14, Tryz.ntmps14
    go_wp2
    go_ret
    exact ⟨rfl, rfl⟩
/-- append as a step of a region -/
theorem step_appendB {W : World} {ops : Array Oper} {o : Oper} {a : Act} {K : Act → World → Prop} {Q : Exit → Act → World → Prop} {E : Prop} (tmp : Tmp) (hdst : o.dst = some tmp) (hgd : o.guard = none) (s x : Operand)
    (ho : o.op = .call { callee := .builtin .append, args := #[s, x], argTypes := #[32, 32] }) (B : Nat) (v sv : Value) (ns ms : List Int) (hown : OwnB B W v ns) (hr : Rd W sv ms)
    (hb : ns.length + ms.length ≤ 140737488355328) (hB : B ≤ W.heap.size) (hs : a.eval s = v) (hx : a.eval x = sv)
    (h : ∀ v' w', Aside (OwnB B w' v' (ns ++ ms)) → Aside (Below B W w') → K (a.put (some tmp) v') w') : if Region.wanted o (yielded ops a.tmps) = true then Oper.wp Tryz.prog o a W K Q else E := by
  obtain ⟨i, hi, hz0, hz1, hz2⟩ := info_parts u8info
  have hown' : W.ownsRow B 5 1 v (bv ns).length (bv ns) := by rw [bv_length]; exact hown
  obtain ⟨v', w', run, o', g'⟩ := run_appendK (P := Tryz.prog) W B 32 5 i _ 1 Tryz.underlying32 hi hz0 hz1 hz2 rfl v (bv ns) hown' sv (bv ms) hr.1 hr.2 (bv_one ms) (by rw [bv_length, bv_length]; omega) (by rw [bv_length, bv_length]; unfold maxLen; omega) hB
  refine step_appendK tmp hdst hgd s x 32 ho v sv v' w' hs hx run (h v' w' ⟨?_⟩ ⟨?_⟩)
  · rw [← bv_append, bv_length] at o'
    exact o'
  · exact (grown_keeps g').below hB (fun k hk => owns_base hown k hk)

/-- a frame's box -/
abbrev fbox (v t f s l : Int) (d : Value) : Obj := .cells #[.int .u8 v, .int .u8 t, .int .u16 f, .int .u32 s, .int .u32 l, d] 34
abbrev frm (v t f s l : Int) (d : Value) : Value := .agg #[.int .u8 v, .int .u8 t, .int .u16 f, .int .u32 s, .int .u32 l, d]
def FB (p : Nat) (v t f s l : Int) (d : Value) (w : World) : Prop := HB p v t f s l w ∧ w.cell? ⟨p, 5, none⟩ = some d
theorem FB.later {p : Nat} {v t f s l : Int} {d : Value} {w w' : World} (h : FB p v t f s l d w) (hb : Below w.heap.size w w') : FB p v t f s l d w' :=
  ⟨h.1.later hb, (hb.cell (p := ⟨p, 5, none⟩) (show p < w.heap.size from cell_lt h.1.1)).trans h.2⟩
theorem FB.new (w : World) (v t f s l : Int) (d : Value) : FB w.heap.size v t f s l d (w.alloc (fbox v t f s l d)) := by
  refine ⟨⟨?_, ?_, ?_, ?_, ?_⟩, ?_⟩ <;> simp [World.cell?, heap_alloc]

/-- a frame's box and its payload, and the sentinels, in a call's world -/
structure FAt (A : Nat → Addr) (w : World) (p : Nat) (v t f s l : Int) (d : Value) (ns : List Int) (w' : World) : Prop where
  sS : SentO A w'
  bB : Below w.heap.size w w'
  fF : FB p v t f s l d w'
  rR : Rd w' d ns
theorem FAt.later {A : Nat → Addr} {w w1 w2 : World} {p : Nat} {v t f s l : Int} {d : Value} {ns : List Int} (h : FAt A w p v t f s l d ns w1) (hb : Below w1.heap.size w1 w2) : FAt A w p v t f s l d ns w2 :=
  ⟨h.sS.later hb, h.bB.trans (hb.mono h.bB.size), h.fF.later hb, h.rR.later hb⟩
theorem FAt.cells {A : Nat → Addr} {w w1 : World} {p : Nat} {v t f s l : Int} {d : Value} {ns : List Int} (h : Aside (FAt A w p v t f s l d ns w1)) :
    w1.cell? ⟨p, 0, none⟩ = some (.int .u8 v) ∧ w1.cell? ⟨p, 1, none⟩ = some (.int .u8 t) ∧ w1.cell? ⟨p, 2, none⟩ = some (.int .u16 f) ∧ w1.cell? ⟨p, 3, none⟩ = some (.int .u32 s) ∧ w1.cell? ⟨p, 4, none⟩ = some (.int .u32 l) ∧ w1.cell? ⟨p, 5, none⟩ = some d :=
  ⟨h.it.fF.1.1, h.it.fF.1.2.1, h.it.fF.1.2.2.1, h.it.fF.1.2.2.2.1, h.it.fF.1.2.2.2.2, h.it.fF.2⟩
section
variable {A : Nat → Addr} {w : World} {p : Nat} {v t f s l : Int} {d : Value} {ns : List Int}
theorem size_f (hl0 : 0 ≤ l) (hl1 : l ≤ 4294967295) (W : World) (h : Aside (FAt A w p v t f s l d ns W)) :
    Calls Tryz.prog 14 #[hdr v t f s l] W fun e w' => e = .returned (.int .i64 (szH t l)) ∧ Aside (FAt A w p v t f s l d ns w') :=
  (size_any v t f s l W hl0 hl1).mono (by rintro e w' ⟨rfl, rfl⟩; exact ⟨rfl, ⟨h.it.later (alloc_below _ _)⟩⟩)
theorem encode_f (hf0 : 0 ≤ f) (hf1 : f ≤ 65535) (hs0 : 0 ≤ s) (hs1 : s ≤ 4294967295) (hl0 : 0 ≤ l) (hl1 : l ≤ 4294967295) (W : World) (h : Aside (FAt A w p v t f s l d ns W)) :
    Calls Tryz.prog 69 #[hdr v t f s l] W fun e w' => ∃ x, e = .returned x ∧ Aside (OwnB W.heap.size w' x (enc v t f s l)) ∧ Aside (FAt A w p v t f s l d ns w') ∧ Aside (Below W.heap.size W w') :=
  (encode_any v t f s l W hf0 hf1 hs0 hs1 hl0 hl1).mono (by rintro e w' ⟨x, rfl, o, hb⟩; exact ⟨x, rfl, o, ⟨h.it.later hb⟩, ⟨hb⟩⟩)
end

def bE (t l : Int) (n : Nat) : Int := if (n : Int) = szH t l then 0 else 15
def bO (v t f s l : Int) (ns : List Int) : List Int := if (ns.length : Int) = szH t l then enc v t f s l ++ ns else []

set_option maxRecDepth 20000 in
set_option maxHeartbeats 4000000 in
theorem bytes_any {A : Nat → Addr} (v t f s l : Int) (d : Value) (ns : List Int) (w : World) (hs : SentO A w) (hr : Rd w d ns) (hn : ns.length ≤ 140737488351300)
    (hf0 : 0 ≤ f) (hf1 : f ≤ 65535) (hs0 : 0 ≤ s) (hs1 : s ≤ 4294967295) (hl0 : 0 ≤ l) (hl1 : l ≤ 4294967295) :
    Calls Tryz.prog 47 #[frm v t f s l d] w fun e w' => ∃ x ev, e = .returned (.tuple #[x, ev]) ∧ Aside (Coded A ev (bE t l ns.length)) ∧ Aside (OwnB w.heap.size w' x (bO v t f s l ns)) ∧ Below w.heap.size w w' := by
  have G0 : Aside (FAt A w w.heap.size v t f s l d ns (w.alloc (fbox v t f s l d)).drew) := ⟨⟨hs.later (alloc_below _ _).drew, (alloc_below _ _).drew, (FB.new w v t f s l d), hr.later (alloc_below _ _).drew⟩⟩
  obtain ⟨a, c, hd⟩ := hr.shape
  subst hd
  have HN := Aside.mk hn
  have Z := Aside.mk (size_f (A := A) (w := w) (p := w.heap.size) (v := v) (t := t) (f := f) (s := s) (d := .slice a ns.length c) (ns := ns) hl0 hl1)
  have E := Aside.mk (encode_f (A := A) (w := w) (p := w.heap.size) (v := v) (t := t) (d := .slice a ns.length c) (ns := ns) hf0 hf1 hs0 hs1 hl0 hl1)
  clear hs hr hn
  by_cases hz : (ns.length : Int) = szH t l
  · have hz' : ((ns.length : Int) != szH t l) = false := by simp [hz]
    have H1 : Aside (bE t l ns.length = 0) := ⟨if_pos hz⟩
    have H2 : Aside (bO v t f s l ns = enc v t f s l ++ ns) := ⟨if_pos hz⟩
    clear hz
    go_enter Tryz.func47, Tryz.ntmps47
    go_wp2_with fail
    go_region_held_law (fun w' => w'.cell? ⟨w.heap.size, 0, none⟩ = some (.int .u8 v) ∧ w'.cell? ⟨w.heap.size, 1, none⟩ = some (.int .u8 t) ∧ w'.cell? ⟨w.heap.size, 2, none⟩ = some (.int .u16 f) ∧ w'.cell? ⟨w.heap.size, 3, none⟩ = some (.int .u32 s) ∧ w'.cell? ⟨w.heap.size, 4, none⟩ = some (.int .u32 l) ∧ w'.cell? ⟨w.heap.size, 5, none⟩ = some (.slice a ns.length c))
      (exact FAt.cells (by assumption)) ((go_at_call 14; refine (Z.it _ (by assumption)).mono ?_; rintro e w2 ⟨rfl, G2⟩))
    go_wp2_with fail
    have G2d : Aside (FAt A w w.heap.size v t f s l (.slice a ns.length c) ns w2.drew) := ⟨G2.it.later (Below.refl _ _).drew⟩
    go_region_held_law (fun w' => w'.cell? ⟨w.heap.size, 0, none⟩ = some (.int .u8 v) ∧ w'.cell? ⟨w.heap.size, 1, none⟩ = some (.int .u8 t) ∧ w'.cell? ⟨w.heap.size, 2, none⟩ = some (.int .u16 f) ∧ w'.cell? ⟨w.heap.size, 3, none⟩ = some (.int .u32 s) ∧ w'.cell? ⟨w.heap.size, 4, none⟩ = some (.int .u32 l) ∧ w'.cell? ⟨w.heap.size, 5, none⟩ = some (.slice a ns.length c))
      (exact FAt.cells (by assumption)) (first
      | (go_at_call 69; refine (E.it _ (by assumption)).mono ?_; rintro e w3 ⟨x3, rfl, O3, G3, S3⟩)
      | (refine step_appendB 17 rfl rfl (.tmp 14) (.tmp 16) rfl w2.drew.heap.size x3 _ (enc v t f s l) ns O3.it G3.it.rR (by have := HN.it; rw [enc_length]; omega) S3.it.size rfl rfl ?_; intro x4 w4 o4 k4; have G4 : Aside (FAt A w w.heap.size v t f s l (.slice a ns.length c) ns w4) := ⟨G2d.it.later (S3.it.trans k4.it)⟩))
    go_wp2_with fail
    go_ret2
    have hle := G2.it.bB.size
    exact ⟨x4, _, rfl, ⟨by rw [H1.it]; exact Coded.none⟩, ⟨by rw [H2.it]; exact o4.it.mono hle⟩, G4.it.bB⟩
  · have hz' : ((ns.length : Int) != szH t l) = true := by simp [hz]
    have H1 : Aside (bE t l ns.length = 15) := ⟨if_neg hz⟩
    have H2 : Aside (bO v t f s l ns = []) := ⟨if_neg hz⟩
    clear hz E
    go_enter Tryz.func47, Tryz.ntmps47
    go_wp2_with fail
    go_region_held_law (fun w' => w'.cell? ⟨w.heap.size, 0, none⟩ = some (.int .u8 v) ∧ w'.cell? ⟨w.heap.size, 1, none⟩ = some (.int .u8 t) ∧ w'.cell? ⟨w.heap.size, 2, none⟩ = some (.int .u16 f) ∧ w'.cell? ⟨w.heap.size, 3, none⟩ = some (.int .u32 s) ∧ w'.cell? ⟨w.heap.size, 4, none⟩ = some (.int .u32 l) ∧ w'.cell? ⟨w.heap.size, 5, none⟩ = some (.slice a ns.length c))
      (exact FAt.cells (by assumption)) ((go_at_call 14; refine (Z.it _ (by assumption)).mono ?_; rintro e w2 ⟨rfl, G2⟩))
    have cE := G2.it.sS.cell 14 0 rfl
    go_wp2_with fail
    go_quiet (fail)
    go_wp2_with fail
    go_ret2
    exact ⟨_, _, rfl, ⟨by rw [H1.it]; exact Coded.mk 14 _ (by decide) (by decide) rfl⟩, ⟨by rw [H2.it]; exact World.ownsRow_nil _ _ _ _⟩, below_drewN G2.it.bB _⟩
end Go.Proofs.YtbbldkldgjmmgaaGreatDoor
