/-
  package tap: firstWord, raw, written
-/
import Derived.Test.YtjhkbkbofbjoeabGreatDoorTTpM
import Derived.Shelf.Strings.SlTrimAscii
namespace Go.Proofs.YtjhkbkbofbjoeabGreatDoor
open Go.RowKit Go.Maps
attribute [-go_sem] run_index_string

abbrev bla : List UInt8 := [32, 9, 13]
theorem any_pre : ∀ {p r : List UInt8}, (∀ x ∈ p, bla.contains x = false) → Lib.indexAny (p ++ 32 :: r) bla = p.length
  | [], r, _ => by simp [Lib.indexAny]
  | x :: p, r, h => by
    have hx := h x (by simp)
    have ih := any_pre (p := p) (r := r) (fun y hy => h y (List.mem_cons_of_mem x hy))
    rw [List.cons_append, Lib.indexAny, hx, ih]
    have h1 : ((p.length : Int) == -1) = false := by rw [beq_eq_false_iff_ne]; omega
    rw [h1]
    simp
theorem trim_pre {x : UInt8} {p : List UInt8} (h : bla.contains x = false) : Lib.trimLeftS (x :: p) bla = x :: p := by
  unfold Lib.trimLeftS
  rw [List.dropWhile_cons, h]
  rfl
theorem trimLeft_at (w : World) (s : List UInt8) : Calls Tryz.prog 67 #[.string (str s), .string (str bla)] w fun e w' => e = .returned (.string (str (Lib.trimLeftS s bla))) ∧ Below w.heap.size w w' := by
  have := Any.strings_TrimLeft_laid Tryz.lays161 (by kernel_rfl) (str s) (str bla) w (by rw [str_size]; decide) (fun j b hj => by
    have h2 : bla[j]? = some b := by simpa using hj
    have : ∀ x ∈ bla, x.toNat < 128 := by decide
    exact this b (List.mem_of_getElem? h2))
  rw [show (str s).data.toList = s from by simp, show (str bla).data.toList = bla from by simp] at this
  exact this
theorem indexAny_at (w : World) {s : List UInt8} (hl : s.length < 4294967281) (ha : ∀ x ∈ s, x.toNat < 128) : Calls Tryz.prog 68 #[.string (str s), .string (str bla)] w fun e w' => e = .returned (.int .i64 (Lib.indexAny s bla)) ∧ Below w.heap.size w w' := by
  have := Tryz.strings_IndexAny_laid (str s) (str bla) w (by rw [str_size]; exact hl) (by rw [str_size]; decide) (fun j b hj => ha b (List.mem_of_getElem? (by simpa using hj))) (fun j b hj => by
    have h2 : bla[j]? = some b := by simpa using hj
    have : ∀ x ∈ bla, x.toNat < 128 := by decide
    exact this b (List.mem_of_getElem? h2))
  simpa using this
theorem first_nil (w : World) : Calls Tryz.prog 46 #[.string (str [])] w fun e w' => e = .returned (.string (str [])) ∧ Aside (Below w.heap.size w w') := by
  have T := Aside.mk (trimLeft_at w [])
  have I : Aside (∀ W, Calls Tryz.prog 68 #[.string (str []), .string (str bla)] W fun e w' => e = .returned (.int .i64 (-1)) ∧ Below W.heap.size W w') := ⟨fun W => indexAny_at W (s := []) (by decide) (fun x hx => by cases hx)⟩
  rw [show Lib.trimLeftS [] bla = [] from rfl] at T
  generalize str [] = S at T I ⊢
  go_enter Tryz.func46, Tryz.ntmps46
  go_wp2_with (first
    | (go_at_call 67; refine T.it.mono ?_; rintro e w1 ⟨rfl, b1⟩; have B1 := Aside.mk b1; clear b1)
    | (go_at_call 68; refine (I.it _).mono ?_; rintro e w2 ⟨rfl, b2⟩; have B2 := Aside.mk b2; clear b2)
    | fail)
  go_ret
  exact ⟨rfl, ⟨B1.it.trans (B2.it.mono B1.it.size)⟩⟩
theorem first_at (w : World) {x : UInt8} {p r : List UInt8} (hp : ∀ y ∈ x :: p, bla.contains y = false) (ha : ∀ y ∈ (x :: p) ++ 32 :: r, y.toNat < 128) (hl : ((x :: p) ++ 32 :: r).length < 4294967281) :
    Calls Tryz.prog 46 #[.string (str ((x :: p) ++ 32 :: r))] w fun e w' => e = .returned (.string (str (x :: p))) ∧ Aside (Below w.heap.size w w') := by
  have T := Aside.mk (trimLeft_at w ((x :: p) ++ 32 :: r))
  rw [List.cons_append, trim_pre (hp x (by simp)), ← List.cons_append] at T
  have I : Aside (∀ W, Calls Tryz.prog 68 #[.string (str ((x :: p) ++ 32 :: r)), .string (str bla)] W fun e w' => e = .returned (.int .i64 ((x :: p).length : Nat)) ∧ Below W.heap.size W w') := ⟨fun W => by
    have := indexAny_at W hl ha
    rwa [any_pre hp] at this⟩
  have S1 : ∀ W, (Instr.slice 9 (.string (str ((x :: p) ++ 32 :: r))) none (some (.int .i64 ((x :: p).length : Nat))) none).run Tryz.prog W = .ok (.string (str (x :: p))) W := fun W => by
    have := s_upto (T := (x :: p) ++ 32 :: r) (b := (x :: p).length) (by simp) W
    rwa [List.take_left'] at this
    rfl
  have hn : ((x :: p).length : Int) ≤ 4294967281 := by simp at hl ⊢; omega
  generalize str ((x :: p) ++ 32 :: r) = S at T I S1 ⊢
  generalize str (x :: p) = S2 at S1 ⊢
  generalize (x :: p).length = n at I S1 hn
  clear hp ha hl
  go_enter Tryz.func46, Tryz.ntmps46
  go_wp2_with (first
    | (go_at_call 67; refine T.it.mono ?_; rintro e w1 ⟨rfl, b1⟩; have B1 := Aside.mk b1; clear b1)
    | (go_at_call 68; refine (I.it _).mono ?_; rintro e w2 ⟨rfl, b2⟩; have B2 := Aside.mk b2; clear b2)
    | fail)
  go_ret
  exact ⟨rfl, ⟨B1.it.trans (B2.it.mono B1.it.size)⟩⟩
abbrev byB : List UInt8 := [98, 121, 116, 101, 115]
theorem raw_at (w : World) {ns : List Int} (hb : AreBytes ns) (hl : ns.length ≤ 4398046511104) : Calls Tryz.prog 48 #[.string (str (byB ++ 32 :: tb ns))] w fun e w' => ∃ q c, e = .returned (.tuple #[.slice q ns.length c, .nilIface]) ∧ Aside (Rd w' (.slice q ns.length c) ns) ∧ Aside (Below w.heap.size w w') := by
  have C := Aside.mk (Tryz.strings_CutPrefix (str (byB ++ 32 :: tb ns)) (str [98, 121, 116, 101, 115, 32]) w)
  have e1 : Lib.hasPrefix (byB ++ 32 :: tb ns) [98, 121, 116, 101, 115, 32] = true := by simp [Lib.hasPrefix]
  have e2 : Lib.trimPrefix (byB ++ 32 :: tb ns) [98, 121, 116, 101, 115, 32] = tb ns := by unfold Lib.trimPrefix; rw [e1]; simp
  rw [show (str (byB ++ 32 :: tb ns)).data.toList = byB ++ 32 :: tb ns from by simp, show (str [98, 121, 116, 101, 115, 32]).data.toList = [98, 121, 116, 101, 115, 32] from by simp, e1, e2] at C
  have R := Aside.mk (sread_at w hb hl)
  generalize str (byB ++ 32 :: tb ns) = S at C ⊢
  change Aside (Calls _ _ _ _ fun e w' => e = .returned (.tuple #[.string (str (tb ns)), .bool true]) ∧ w' = w) at C
  generalize str (tb ns) = S2 at C R
  generalize ns.length = n at R ⊢
  clear e1 e2 hb hl
  go_enter Tryz.func48, Tryz.ntmps48
  go_wp2_with (first
    | (go_at_call 70; refine C.it.mono ?_; rintro e w1 ⟨rfl, rfl⟩)
    | (go_at_call 59; refine R.it.mono ?_; rintro e w2 ⟨q, c, rfl, O2, B2⟩)
    | fail)
  go_ret2
  exact ⟨_, _, rfl, ⟨O2.it.rd⟩, B2⟩
/-- what a text's line writes -/
inductive Wr : List UInt8 → List Int → Prop
  | none : Wr [] []
  | remark (p r : List UInt8) : (∀ y ∈ p, bla.contains y = false) → (∀ y ∈ p ++ 32 :: r, y.toNat < 128) → (p ++ 32 :: r).length ≤ 1000000 → Wr (35 :: (p ++ 32 :: r)) []
  | bytes (ns : List Int) : AreBytes ns → ns.length ≤ 1000000 → Wr (byB ++ 32 :: tb ns) ns
  | frame (v t f s l : Int) (ns : List Int) : Fits v t f s l → (ns.length : Int) = szH t l → AreBytes ns → ns.length ≤ 100000000 → Wr (lineB v t f s l ns) (enc v t f s l ++ ns)
theorem prefix_35 (w : World) (p : List UInt8) : Calls Tryz.prog 47 #[.string (str (35 :: p)), .string (str [35])] w fun e w' => e = .returned (.bool true) ∧ w' = w := by
  have := Tryz.strings_HasPrefix (str (35 :: p)) (str [35]) w
  rw [show (str (35 :: p)).data.toList = 35 :: p from by simp, show (str [35]).data.toList = [35] from by simp, show Lib.hasPrefix (35 :: p) [35] = true from by simp [Lib.hasPrefix]] at this
  exact this
theorem prefix_no (w : World) {x : UInt8} {p : List UInt8} (h : x ≠ 35) : Calls Tryz.prog 47 #[.string (str (x :: p)), .string (str [35])] w fun e w' => e = .returned (.bool false) ∧ w' = w := by
  have := Tryz.strings_HasPrefix (str (x :: p)) (str [35]) w
  rw [show (str (x :: p)).data.toList = x :: p from by simp, show (str [35]).data.toList = [35] from by simp, show Lib.hasPrefix (x :: p) [35] = false from by
    show ((35 : UInt8) == x && List.isPrefixOf [] p) = false
    rw [show ((35 : UInt8) == x) = false from by rw [beq_eq_false_iff_ne]; exact Ne.symm h]
    rfl] at this
  exact this
theorem str_ne_nil (x : UInt8) (p : List UInt8) : ((str (x :: p)).toList == []) = false := by rw [str_beq]; simp
theorem rd_nil (w : World) : Rd w (.slice none 0 0) [] := OwnB.rd (B := 0) ⟨rfl, .inl ⟨rfl, rfl⟩⟩
theorem written_none (w : World) : Calls Tryz.prog 25 #[.string (str [])] w fun e w' => e = .returned (.tuple #[.slice none 0 0, .nilIface]) ∧ Aside (Below w.heap.size w w') := by
  have F := Aside.mk (first_nil w)
  have h0 : ((str []).toList == []) = true := by rw [str_beq]; rfl
  generalize str [] = S at F h0 ⊢
  go_enter Tryz.func25, Tryz.ntmps25
  go_wp2_with (first
    | (go_at_call 46; refine F.it.mono ?_; rintro e w1 ⟨rfl, B1⟩)
    | fail)
  go_ret2
  exact ⟨rfl, B1⟩
theorem written_remark (w : World) {p r : List UInt8} (hp : ∀ y ∈ p, bla.contains y = false) (ha : ∀ y ∈ p ++ 32 :: r, y.toNat < 128) (hl : (p ++ 32 :: r).length ≤ 1000000) : Calls Tryz.prog 25 #[.string (str (35 :: (p ++ 32 :: r)))] w fun e w' => e = .returned (.tuple #[.slice none 0 0, .nilIface]) ∧ Aside (Below w.heap.size w w') := by
  have F := Aside.mk (first_at w (x := 35) (p := p) (r := r) (fun y hy => by rcases List.mem_cons.1 hy with rfl | h; rfl; exact hp y h) (fun y hy => by rw [List.cons_append] at hy; rcases List.mem_cons.1 hy with rfl | h; decide; exact ha y h) (by rw [List.cons_append, List.length_cons]; omega))
  rw [List.cons_append] at F
  have P : Aside (∀ W, Calls Tryz.prog 47 #[.string (str (35 :: p)), .string (str [35])] W fun e w' => e = .returned (.bool true) ∧ w' = W) := ⟨fun W => prefix_35 W p⟩
  have h0 := str_ne_nil 35 p
  generalize str (35 :: (p ++ 32 :: r)) = S at F ⊢
  generalize str (35 :: p) = S2 at F P h0
  clear hp ha hl
  go_enter Tryz.func25, Tryz.ntmps25
  go_wp2_with (first
    | (go_at_call 46; refine F.it.mono ?_; rintro e w1 ⟨rfl, B1⟩)
    | (go_at_call 47; refine (P.it _).mono ?_; rintro e w2 ⟨rfl, rfl⟩)
    | fail)
  go_ret2
  exact ⟨rfl, B1⟩
theorem tb_ascii {ns : List Int} (hb : AreBytes ns) : ∀ y ∈ tb ns, y.toNat < 128 := fun y hy => by
  have := Tp.un_mem (P := fun x => 32 < x ∧ x < 127) (Tp.told_nb (b := nat ns) (fun c hc => by
    obtain ⟨z, hz, rfl⟩ := List.mem_map.1 hc
    have := hb z hz
    omega)) (fun x h => by omega) y hy
  omega
theorem written_bytes (w : World) {ns : List Int} (hb : AreBytes ns) (hl : ns.length ≤ 1000000) : Calls Tryz.prog 25 #[.string (str (byB ++ 32 :: tb ns))] w fun e w' => ∃ q c, e = .returned (.tuple #[.slice q ns.length c, .nilIface]) ∧ Aside (Rd w' (.slice q ns.length c) ns) ∧ Aside (Below w.heap.size w w') := by
  have hD := tb_le ns
  have F := Aside.mk (first_at w (x := 98) (p := [121, 116, 101, 115]) (r := tb ns) (by decide) (fun y hy => by
    rcases List.mem_append.1 hy with h | h
    · have : ∀ x ∈ byB, x.toNat < 128 := by decide
      exact this y h
    · rcases List.mem_cons.1 h with rfl | h
      · decide
      · exact tb_ascii hb y h) (by simp; omega))
  have P : Aside (∀ W, Calls Tryz.prog 47 #[.string (str byB), .string (str [35])] W fun e w' => e = .returned (.bool false) ∧ w' = W) := ⟨fun W => prefix_no W (by decide)⟩
  have h0 := str_ne_nil 98 [121, 116, 101, 115]
  have h1 := str_beq byB byB
  rw [decide_eq_true rfl] at h1
  have RW : Aside (∀ W, Calls Tryz.prog 48 #[.string (str (byB ++ 32 :: tb ns))] W fun e w' => ∃ q c, e = .returned (.tuple #[.slice q ns.length c, .nilIface]) ∧ Aside (Rd w' (.slice q ns.length c) ns) ∧ Aside (Below W.heap.size W w')) := ⟨fun W => raw_at W hb (by omega)⟩
  generalize ns.length = n at RW ⊢
  generalize str (byB ++ 32 :: tb ns) = S at F RW ⊢
  generalize str byB = S2 at F P h0 h1
  clear hb hl hD
  go_enter Tryz.func25, Tryz.ntmps25
  go_wp2_with (first
    | (go_at_call 46; refine F.it.mono ?_; rintro e w1 ⟨rfl, B1⟩)
    | (go_at_call 47; refine (P.it _).mono ?_; rintro e w2 ⟨rfl, rfl⟩)
    | (go_at_call 48; refine (RW.it _).mono ?_; rintro e w3 ⟨q, c, rfl, R3, B3⟩)
    | fail)
  go_ret2
  exact ⟨_, _, rfl, R3, ⟨B1.it.trans (B3.it.mono B1.it.size)⟩⟩
theorem dig_ascii {n : Nat} : ∀ y ∈ Lib.decDigits n, y.toNat < 128 := fun y hy => by
  have := Wd.dd_digit n y hy
  omega
theorem tl_ascii {ws : List (List UInt8)} (h : ∀ x ∈ ws, ∀ y ∈ x, y.toNat < 128) : ∀ y ∈ Wd.tl ws, y.toNat < 128 := fun y hy => by
  obtain ⟨x, hx, hy⟩ := List.mem_flatMap.1 hy
  rcases List.mem_cons.1 hy with rfl | hy
  · decide
  · exact h x hx y hy
theorem words_ascii (t v : Nat) (a b c d : Bool) (h s l : Nat) : ∀ x ∈ Wd.words t v a b c d h s l, ∀ y ∈ x, y.toNat < 128 := by
  have dd : ∀ n, ∀ y ∈ Lib.decDigits n, y.toNat < 128 := fun n y hy => dig_ascii y hy
  have lit : ∀ x ∈ ([[116, 121, 112, 101], [118, 101, 114, 115, 105, 111, 110], [102, 108, 97, 103, 115], [115, 116, 114, 101, 97, 109], [108, 101, 110, 103, 116, 104], [115, 121, 110], [97, 99, 107], [102, 105, 110], [114, 115, 116], [100, 97, 116, 97], [119, 105, 110, 100, 111, 119], [112, 105, 110, 103], [97, 119, 97, 121], []] : List (List UInt8)), ∀ y ∈ x, y.toNat < 128 := by decide
  intro x hx
  unfold Wd.words at hx
  rcases List.mem_append.1 hx with hx | hx
  · unfold Wd.ty at hx
    split at hx
    · have ht : t = 0 ∨ t = 1 ∨ t = 2 ∨ t = 3 := by omega
      simp only [List.mem_singleton] at hx
      subst hx
      rcases ht with rfl | rfl | rfl | rfl <;> exact lit _ (by simp [Wd.wT])
    · simp only [List.mem_cons, List.not_mem_nil, or_false] at hx
      rcases hx with rfl | rfl
      · exact lit _ (by simp)
      · exact dd _
  rcases List.mem_append.1 hx with hx | hx
  · rcases Wd.ver_mem hx with rfl | rfl
    · exact lit _ (by simp)
    · exact dd _
  rcases List.mem_append.1 hx with hx | hx
  · rcases List.mem_append.1 hx with hx | hx
    · rcases Wd.fls_mem hx with ⟨rfl, _⟩ | ⟨rfl, _⟩ | ⟨rfl, _⟩ | ⟨rfl, _⟩ <;> exact lit _ (by simp)
    · rcases Wd.fur_mem hx with rfl | rfl
      · exact lit _ (by simp)
      · exact dd _
  · simp only [Wd.fin, List.mem_cons, List.not_mem_nil, or_false] at hx
    rcases hx with rfl | rfl | rfl | rfl
    · exact lit _ (by simp)
    · exact dd _
    · exact lit _ (by simp)
    · exact dd _
theorem txB_ascii {v t f s l : Int} (H : Fits v t f s l) : ∀ y ∈ txB v t f s l, y.toNat < 128 := by
  rw [txB_words v t f s l H.v0 H.t0 H.f0]
  have h := words_ascii t.toNat v.toNat (bitB f 1) (bitB f 2) (bitB f 4) (bitB f 8) (f / 16 * 16).toNat s.toNat l.toNat
  cases hq : Wd.words t.toNat v.toNat (bitB f 1) (bitB f 2) (bitB f 4) (bitB f 8) (f / 16 * 16).toNat s.toNat l.toNat with
  | nil => intro y hy; simp [Wd.jn] at hy
  | cons x r =>
    rw [hq] at h
    intro y hy
    rcases List.mem_append.1 (show y ∈ x ++ Wd.tl r from hy) with hy | hy
    · exact h x (by simp) y hy
    · exact tl_ascii (fun z hz => h z (by simp [hz])) y hy
theorem line_ascii {v t f s l : Int} {ns : List Int} (H : Fits v t f s l) (hb : AreBytes ns) : ∀ y ∈ lineB v t f s l ns, y.toNat < 128 := fun y hy => by
  unfold lineB at hy
  rcases List.mem_append.1 hy with hy | hy
  · exact txB_ascii H y hy
  · split at hy
    · rcases List.mem_cons.1 hy with rfl | hy
      · decide
      · exact tb_ascii hb y hy
    · cases hy
theorem kind_cons {x : List UInt8} (h : isKind x) : ∃ a p, x = a :: p ∧ a ≠ 35 ∧ x ≠ byB ∧ ∀ y ∈ x, bla.contains y = false := by
  rcases h with rfl | rfl | rfl | rfl | rfl
  all_goals exact ⟨_, _, rfl, by decide, by decide, by decide⟩
set_option maxRecDepth 20000 in
theorem written_frame {A : Nat → Addr} (w : World) {v t f s l : Int} {ns : List Int} (hs : SentO A w) (hW : Words w) (H : Fits v t f s l) (hz : (ns.length : Int) = szH t l) (hb : AreBytes ns) (hl : ns.length ≤ 100000000) :
    Calls Tryz.prog 25 #[.string (str (lineB v t f s l ns))] w fun e w' => ∃ q n c, e = .returned (.tuple #[.slice q n c, .nilIface]) ∧ Aside (Rd w' (.slice q n c) (enc v t f s l ++ ns)) ∧ Aside (Below w.heap.size w w') := by
  obtain ⟨x, ws, rest, e1, hk, hd, hj, hnb, hg⟩ := text_guess H
  have eL := head_line (ns := ns) (x := x) (rest := rest) (by rw [e1, hj])
  obtain ⟨a, p, rfl, ha35, hxb, hbl⟩ := kind_cons hk
  have hasc := line_ascii H hb
  have hlen := line_len (ns := ns) H
  rw [eL] at hasc hlen
  have F := Aside.mk (first_at w (x := a) (p := p) (r := rest ++ if t = 0 then 32 :: tb ns else []) hbl hasc (by omega))
  rw [← eL] at F
  have P : Aside (∀ W, Calls Tryz.prog 47 #[.string (str (a :: p)), .string (str [35])] W fun e w' => e = .returned (.bool false) ∧ w' = W) := ⟨fun W => prefix_no W ha35⟩
  have h0 := str_ne_nil a p
  have h1 := str_beq (a :: p) byB
  rw [decide_eq_false hxb] at h1
  have PS : Aside (∀ W, Below w.heap.size w W → Calls Tryz.prog 14 #[.string (str (lineB v t f s l ns))] W fun e w' => ∃ d, e = .returned (.tuple #[frm v t f s l d, .nilIface]) ∧ Aside (Rd w' d ns) ∧ Aside (Below W.heap.size W w')) := ⟨fun W h => parse_at W (hW.later h) H hz hb (by omega)⟩
  have BY : Aside (∀ W d, Below w.heap.size w W → Rd W d ns → Calls Tryz.prog 49 #[frm v t f s l d] W fun e w' => ∃ q n c, e = .returned (.tuple #[.slice q n c, .nilIface]) ∧ Aside (Rd w' (.slice q n c) (enc v t f s l ++ ns)) ∧ Aside (Below W.heap.size W w')) := ⟨fun W d h hr => by
    refine (bytes_any v t f s l d ns W (hs.later h) hr (by omega) H.f0 H.f1 H.s0 H.s1 H.l0 H.l1).mono ?_
    rintro e w' ⟨y, ev, rfl, V, O, hb⟩
    have eE : bE t l ns.length = 0 := if_pos hz
    have eO : bO v t f s l ns = enc v t f s l ++ ns := if_pos hz
    rw [eE] at V
    rw [eO] at O
    obtain ⟨q, c, e⟩ := O.it.shape
    subst e
    exact ⟨q, _, c, by rw [Coded.zero V.it], ⟨O.it.rd⟩, ⟨hb⟩⟩⟩
  generalize str (lineB v t f s l ns) = S at F PS ⊢
  generalize str (a :: p) = S2 at F P h0 h1
  clear e1 hk hd hj hnb hg eL ha35 hxb hbl hasc hlen hz hb hl hs hW H
  go_enter Tryz.func25, Tryz.ntmps25
  go_upto_region 6 with (first
    | (go_at_call 46; refine F.it.mono ?_; rintro e w1 ⟨rfl, B1⟩)
    | (go_at_call 47; refine (P.it _).mono ?_; rintro e w2 ⟨rfl, rfl⟩)
    | fail)
  have PS1 := Aside.mk (PS.it _ B1.it)
  go_upto_region 7 with (first
    | (go_at_call 14; refine PS1.it.mono ?_; rintro e w3 ⟨d, rfl, R3, B3⟩; obtain ⟨dq, dc, hd⟩ := R3.it.shape; subst hd)
    | fail)
  have H3 := Aside.mk (FB.new w3 v t f s l (.slice dq ns.length dc))
  have R4 := Aside.mk (R3.it.later (alloc_below w3 (fbox v t f s l (.slice dq ns.length dc))))
  have B4 : Aside (Below w.heap.size w (w3.alloc (fbox v t f s l (.slice dq ns.length dc)))) := ⟨(B1.it.trans (B3.it.mono B1.it.size)).trans ((alloc_below _ _).mono (Nat.le_trans B1.it.size B3.it.size))⟩
  generalize w3.heap.size = fb at H3 ⊢
  generalize w3.alloc (fbox v t f s l (.slice dq ns.length dc)) = w4 at H3 R4 B4 ⊢
  obtain ⟨⟨g0, g1, g2, g3, g4⟩, g5⟩ := H3.it
  have BY4 := Aside.mk (BY.it w4 _ B4.it R4.it)
  go_wp2_with (first
    | (go_at_call 49; refine BY4.it.mono ?_; rintro e w5 ⟨q, n, c, rfl, R5, B5⟩)
    | fail)
  go_ret2
  exact ⟨_, _, _, rfl, R5, ⟨B4.it.trans (B5.it.mono B4.it.size)⟩⟩
theorem written_at {A : Nat → Addr} (w : World) {L : List UInt8} {ns : List Int} (hs : SentO A w) (hW : Words w) (h : Wr L ns) :
    Calls Tryz.prog 25 #[.string (str L)] w fun e w' => ∃ q n c, e = .returned (.tuple #[.slice q n c, .nilIface]) ∧ Aside (Rd w' (.slice q n c) ns) ∧ Aside (Below w.heap.size w w') := by
  cases h with
  | none =>
    refine (written_none w).mono ?_
    rintro e w' ⟨rfl, b⟩
    exact ⟨_, _, _, rfl, ⟨rd_nil w'⟩, b⟩
  | remark p r h1 h2 h3 =>
    refine (written_remark w h1 h2 h3).mono ?_
    rintro e w' ⟨rfl, b⟩
    exact ⟨_, _, _, rfl, ⟨rd_nil w'⟩, b⟩
  | bytes ns hb hl =>
    refine (written_bytes w hb hl).mono ?_
    rintro e w' ⟨q, c, rfl, r, b⟩
    exact ⟨_, _, _, rfl, r, b⟩
  | frame v t f s l ns H hz hb hl => exact written_frame w hs hW H hz hb hl
end Go.Proofs.YtjhkbkbofbjoeabGreatDoor
