/- What a line tells, as the statements of layer 20 have it: the same; ask, deliver, drop, twice (written by wip/tools/mk-ltell.py). -/
import Derived.Test.YtokfcjgfpchffaaGreatDoorShF
namespace Go.Proofs.YtokfcjgfpchffaaGreatDoor
open Go.ChangeShapes Go.WideShapes Go.ChangeAt Go.RowKit



section
variable {O V : Nat → Prop} {w : World} {p : Nat} {s : Ft.St}
set_option maxRecDepth 100000 in
set_option maxHeartbeats 4000000 in
theorem ltell_add_else (H : FlAt O V w p 1 Sc.msS s (Ft.qs Sc.msS s)) (hA : Alive 1 Sc.msS Sc.tS s) (d : ByteArray) (hd : d.size ≤ 2900) (w0 : List UInt8) (r : List (List UInt8)) (hp : Sh.pieces 32 d.data.toList = w0 :: r) (hall : ∀ x ∈ r, Sh.Num x) (h0 : w0 = Sc.addW) (hk : r.length ≠ 2) :
    Calls Tryz.prog 13 #[.pointer (some ⟨p, 0, none⟩), .string d] w fun e w' => e = .returned (.string ⟨(Sc.told 2).toArray⟩) ∧ Moved O V w w' p s := by
  have HH := hid (And.intro H hA)
  have HSZ := hid (piece_sizes d hd hp)
  obtain ⟨n, hn⟩ : ∃ n, r.length = n := ⟨_, rfl⟩
  have hn3 : n ≤ 2900 := by
    have h1 := Sh.pieces_len 32 d.data.toList
    rw [hp, List.length_cons, hn, list_size] at h1
    omega
  have HS : Hid (Calls Tryz.prog 11 #[.string d, .int .u8 32] w _) := rsplit d 32 (by omega) (n + 1) (by rw [hp, List.length_cons, hn]) w
  rw [hp] at HS
  clear H hA hp hd
  go_enter Tryz.func13, Tryz.ntmps13
  go_wp2_with fail
  refine HS.out.mono ?_
  rintro e u1 ⟨hb1, a1, c1, rfl, ho1⟩
  have hr1 := ho1.texts_high
  obtain ⟨D, C, hD, hrD⟩ := words_tail hr1
  have hrD2 : bagS.rep u1 everywhere [.slice D n C] (Sh.texts r) := Shape.any hrD
  have HB1 := hid hb1
  have HR1 := hid (Shape.any hr1)
  clear hb1 hr1 hrD HS ho1
  have HN : Hid (Calls _ _ _ _ _) := rnumbers_yes D n C (Sh.texts r) u1 hrD2 (by omega) HSZ.out ((Sh.num_texts r).2 hall)
  clear hrD2 hn3
  rw [Sh.nums_texts] at HN
  go_wp2_with fail
  refine HN.out.mono ?_
  rintro e u2 ⟨hb2, na, nc, rfl, hn2⟩
  have HB2 := hid (bel_then HB1.out hb2)
  have HR2 := hid (Shape.below HR1.out hb2)
  obtain ⟨bw, ow, rfl, hbw, hcw0⟩ := (Texts.of_rep HR2.out).at (j := 0) (by omega)
  have hcw : u2.cell? ⟨bw, ow, none⟩ = some (.string ⟨w0.toArray⟩) := hcw0
  obtain ⟨x0, hx0⟩ : ∃ x0 : ByteArray, (⟨w0.toArray⟩ : ByteArray) = x0 := ⟨_, rfl⟩
  have hx0d : x0.data.toList = w0 := by rw [← hx0]
  rw [hx0] at hcw
  clear hb2 HN hcw0 hx0 hD
  have q0 : (x0.toList == ([97, 115, 107] : List UInt8)) = false := word_no (by rw [hx0d, h0]; decide)
  have q1 : (x0.toList == ([100, 101, 108, 105, 118, 101, 114] : List UInt8)) = false := word_no (by rw [hx0d, h0]; decide)
  have q2 : (x0.toList == ([100, 114, 111, 112] : List UInt8)) = false := word_no (by rw [hx0d, h0]; decide)
  have q3 : (x0.toList == ([116, 119, 105, 99, 101] : List UInt8)) = false := word_no (by rw [hx0d, h0]; decide)
  have q4 : (x0.toList == ([97, 100, 100] : List UInt8)) = true := word_yes (hx0d.trans h0)
  have q5 : (x0.toList == ([114, 101, 116, 105, 114, 101] : List UInt8)) = false := word_no (by rw [hx0d, h0]; decide)
  have q6 : (x0.toList == ([98, 97, 103] : List UInt8)) = false := word_no (by rw [hx0d, h0]; decide)
  have q7 : (x0.toList == ([100, 111, 110, 101] : List UInt8)) = false := word_no (by rw [hx0d, h0]; decide)
  have hne : ((n : Int) == 2) = false := by rw [beq_eq_false_iff_ne]; omega
  clear h0 hn hk
  have HT : Hid (Calls Tryz.prog 19 #[.int .i64 2] u2 _) := stold 2 (by omega) u2
  clear hx0d hn2
  go_wp2_with fail
  refine HT.out.mono ?_
  rintro e u3 ⟨rfl, hb3⟩
  go_wp2
  go_ret
  exact ⟨rfl, Moved.same HH.out.1 (bel_then HB2.out hb3)⟩
set_option maxRecDepth 100000 in
set_option maxHeartbeats 4000000 in
theorem ltell_retire_else (H : FlAt O V w p 1 Sc.msS s (Ft.qs Sc.msS s)) (hA : Alive 1 Sc.msS Sc.tS s) (d : ByteArray) (hd : d.size ≤ 2900) (w0 : List UInt8) (r : List (List UInt8)) (hp : Sh.pieces 32 d.data.toList = w0 :: r) (hall : ∀ x ∈ r, Sh.Num x) (h0 : w0 = Sc.retireW) (hk : r.length ≠ 2) :
    Calls Tryz.prog 13 #[.pointer (some ⟨p, 0, none⟩), .string d] w fun e w' => e = .returned (.string ⟨(Sc.told 2).toArray⟩) ∧ Moved O V w w' p s := by
  have HH := hid (And.intro H hA)
  have HSZ := hid (piece_sizes d hd hp)
  obtain ⟨n, hn⟩ : ∃ n, r.length = n := ⟨_, rfl⟩
  have hn3 : n ≤ 2900 := by
    have h1 := Sh.pieces_len 32 d.data.toList
    rw [hp, List.length_cons, hn, list_size] at h1
    omega
  have HS : Hid (Calls Tryz.prog 11 #[.string d, .int .u8 32] w _) := rsplit d 32 (by omega) (n + 1) (by rw [hp, List.length_cons, hn]) w
  rw [hp] at HS
  clear H hA hp hd
  go_enter Tryz.func13, Tryz.ntmps13
  go_wp2_with fail
  refine HS.out.mono ?_
  rintro e u1 ⟨hb1, a1, c1, rfl, ho1⟩
  have hr1 := ho1.texts_high
  obtain ⟨D, C, hD, hrD⟩ := words_tail hr1
  have hrD2 : bagS.rep u1 everywhere [.slice D n C] (Sh.texts r) := Shape.any hrD
  have HB1 := hid hb1
  have HR1 := hid (Shape.any hr1)
  clear hb1 hr1 hrD HS ho1
  have HN : Hid (Calls _ _ _ _ _) := rnumbers_yes D n C (Sh.texts r) u1 hrD2 (by omega) HSZ.out ((Sh.num_texts r).2 hall)
  clear hrD2 hn3
  rw [Sh.nums_texts] at HN
  go_wp2_with fail
  refine HN.out.mono ?_
  rintro e u2 ⟨hb2, na, nc, rfl, hn2⟩
  have HB2 := hid (bel_then HB1.out hb2)
  have HR2 := hid (Shape.below HR1.out hb2)
  obtain ⟨bw, ow, rfl, hbw, hcw0⟩ := (Texts.of_rep HR2.out).at (j := 0) (by omega)
  have hcw : u2.cell? ⟨bw, ow, none⟩ = some (.string ⟨w0.toArray⟩) := hcw0
  obtain ⟨x0, hx0⟩ : ∃ x0 : ByteArray, (⟨w0.toArray⟩ : ByteArray) = x0 := ⟨_, rfl⟩
  have hx0d : x0.data.toList = w0 := by rw [← hx0]
  rw [hx0] at hcw
  clear hb2 HN hcw0 hx0 hD
  have q0 : (x0.toList == ([97, 115, 107] : List UInt8)) = false := word_no (by rw [hx0d, h0]; decide)
  have q1 : (x0.toList == ([100, 101, 108, 105, 118, 101, 114] : List UInt8)) = false := word_no (by rw [hx0d, h0]; decide)
  have q2 : (x0.toList == ([100, 114, 111, 112] : List UInt8)) = false := word_no (by rw [hx0d, h0]; decide)
  have q3 : (x0.toList == ([116, 119, 105, 99, 101] : List UInt8)) = false := word_no (by rw [hx0d, h0]; decide)
  have q4 : (x0.toList == ([97, 100, 100] : List UInt8)) = false := word_no (by rw [hx0d, h0]; decide)
  have q5 : (x0.toList == ([114, 101, 116, 105, 114, 101] : List UInt8)) = true := word_yes (hx0d.trans h0)
  have q6 : (x0.toList == ([98, 97, 103] : List UInt8)) = false := word_no (by rw [hx0d, h0]; decide)
  have q7 : (x0.toList == ([100, 111, 110, 101] : List UInt8)) = false := word_no (by rw [hx0d, h0]; decide)
  have hne : ((n : Int) == 2) = false := by rw [beq_eq_false_iff_ne]; omega
  clear h0 hn hk
  have HT : Hid (Calls Tryz.prog 19 #[.int .i64 2] u2 _) := stold 2 (by omega) u2
  clear hx0d hn2
  go_wp2_with fail
  refine HT.out.mono ?_
  rintro e u3 ⟨rfl, hb3⟩
  go_wp2
  go_ret
  exact ⟨rfl, Moved.same HH.out.1 (bel_then HB2.out hb3)⟩
set_option maxRecDepth 100000 in
set_option maxHeartbeats 4000000 in
theorem ltell_bag_else (H : FlAt O V w p 1 Sc.msS s (Ft.qs Sc.msS s)) (hA : Alive 1 Sc.msS Sc.tS s) (d : ByteArray) (hd : d.size ≤ 2900) (w0 : List UInt8) (r : List (List UInt8)) (hp : Sh.pieces 32 d.data.toList = w0 :: r) (hall : ∀ x ∈ r, Sh.Num x) (h0 : w0 = Sc.bagW) (hk : r.length ≠ 0) :
    Calls Tryz.prog 13 #[.pointer (some ⟨p, 0, none⟩), .string d] w fun e w' => e = .returned (.string ⟨(Sc.told 2).toArray⟩) ∧ Moved O V w w' p s := by
  have HH := hid (And.intro H hA)
  have HSZ := hid (piece_sizes d hd hp)
  obtain ⟨n, hn⟩ : ∃ n, r.length = n := ⟨_, rfl⟩
  have hn3 : n ≤ 2900 := by
    have h1 := Sh.pieces_len 32 d.data.toList
    rw [hp, List.length_cons, hn, list_size] at h1
    omega
  have HS : Hid (Calls Tryz.prog 11 #[.string d, .int .u8 32] w _) := rsplit d 32 (by omega) (n + 1) (by rw [hp, List.length_cons, hn]) w
  rw [hp] at HS
  clear H hA hp hd
  go_enter Tryz.func13, Tryz.ntmps13
  go_wp2_with fail
  refine HS.out.mono ?_
  rintro e u1 ⟨hb1, a1, c1, rfl, ho1⟩
  have hr1 := ho1.texts_high
  obtain ⟨D, C, hD, hrD⟩ := words_tail hr1
  have hrD2 : bagS.rep u1 everywhere [.slice D n C] (Sh.texts r) := Shape.any hrD
  have HB1 := hid hb1
  have HR1 := hid (Shape.any hr1)
  clear hb1 hr1 hrD HS ho1
  have HN : Hid (Calls _ _ _ _ _) := rnumbers_yes D n C (Sh.texts r) u1 hrD2 (by omega) HSZ.out ((Sh.num_texts r).2 hall)
  clear hrD2 hn3
  rw [Sh.nums_texts] at HN
  go_wp2_with fail
  refine HN.out.mono ?_
  rintro e u2 ⟨hb2, na, nc, rfl, hn2⟩
  have HB2 := hid (bel_then HB1.out hb2)
  have HR2 := hid (Shape.below HR1.out hb2)
  obtain ⟨bw, ow, rfl, hbw, hcw0⟩ := (Texts.of_rep HR2.out).at (j := 0) (by omega)
  have hcw : u2.cell? ⟨bw, ow, none⟩ = some (.string ⟨w0.toArray⟩) := hcw0
  obtain ⟨x0, hx0⟩ : ∃ x0 : ByteArray, (⟨w0.toArray⟩ : ByteArray) = x0 := ⟨_, rfl⟩
  have hx0d : x0.data.toList = w0 := by rw [← hx0]
  rw [hx0] at hcw
  clear hb2 HN hcw0 hx0 hD
  have q0 : (x0.toList == ([97, 115, 107] : List UInt8)) = false := word_no (by rw [hx0d, h0]; decide)
  have q1 : (x0.toList == ([100, 101, 108, 105, 118, 101, 114] : List UInt8)) = false := word_no (by rw [hx0d, h0]; decide)
  have q2 : (x0.toList == ([100, 114, 111, 112] : List UInt8)) = false := word_no (by rw [hx0d, h0]; decide)
  have q3 : (x0.toList == ([116, 119, 105, 99, 101] : List UInt8)) = false := word_no (by rw [hx0d, h0]; decide)
  have q4 : (x0.toList == ([97, 100, 100] : List UInt8)) = false := word_no (by rw [hx0d, h0]; decide)
  have q5 : (x0.toList == ([114, 101, 116, 105, 114, 101] : List UInt8)) = false := word_no (by rw [hx0d, h0]; decide)
  have q6 : (x0.toList == ([98, 97, 103] : List UInt8)) = true := word_yes (hx0d.trans h0)
  have q7 : (x0.toList == ([100, 111, 110, 101] : List UInt8)) = false := word_no (by rw [hx0d, h0]; decide)
  have hne : ((n : Int) == 0) = false := by rw [beq_eq_false_iff_ne]; omega
  clear h0 hn hk
  have HT : Hid (Calls Tryz.prog 19 #[.int .i64 2] u2 _) := stold 2 (by omega) u2
  clear hx0d hn2
  go_wp2_with fail
  refine HT.out.mono ?_
  rintro e u3 ⟨rfl, hb3⟩
  go_wp2
  go_ret
  exact ⟨rfl, Moved.same HH.out.1 (bel_then HB2.out hb3)⟩
set_option maxRecDepth 100000 in
set_option maxHeartbeats 4000000 in
theorem ltell_done_else (H : FlAt O V w p 1 Sc.msS s (Ft.qs Sc.msS s)) (hA : Alive 1 Sc.msS Sc.tS s) (d : ByteArray) (hd : d.size ≤ 2900) (w0 : List UInt8) (r : List (List UInt8)) (hp : Sh.pieces 32 d.data.toList = w0 :: r) (hall : ∀ x ∈ r, Sh.Num x) (h0 : w0 = Sc.doneW) (hk : r.length ≠ 0) :
    Calls Tryz.prog 13 #[.pointer (some ⟨p, 0, none⟩), .string d] w fun e w' => e = .returned (.string ⟨(Sc.told 2).toArray⟩) ∧ Moved O V w w' p s := by
  have HH := hid (And.intro H hA)
  have HSZ := hid (piece_sizes d hd hp)
  obtain ⟨n, hn⟩ : ∃ n, r.length = n := ⟨_, rfl⟩
  have hn3 : n ≤ 2900 := by
    have h1 := Sh.pieces_len 32 d.data.toList
    rw [hp, List.length_cons, hn, list_size] at h1
    omega
  have HS : Hid (Calls Tryz.prog 11 #[.string d, .int .u8 32] w _) := rsplit d 32 (by omega) (n + 1) (by rw [hp, List.length_cons, hn]) w
  rw [hp] at HS
  clear H hA hp hd
  go_enter Tryz.func13, Tryz.ntmps13
  go_wp2_with fail
  refine HS.out.mono ?_
  rintro e u1 ⟨hb1, a1, c1, rfl, ho1⟩
  have hr1 := ho1.texts_high
  obtain ⟨D, C, hD, hrD⟩ := words_tail hr1
  have hrD2 : bagS.rep u1 everywhere [.slice D n C] (Sh.texts r) := Shape.any hrD
  have HB1 := hid hb1
  have HR1 := hid (Shape.any hr1)
  clear hb1 hr1 hrD HS ho1
  have HN : Hid (Calls _ _ _ _ _) := rnumbers_yes D n C (Sh.texts r) u1 hrD2 (by omega) HSZ.out ((Sh.num_texts r).2 hall)
  clear hrD2 hn3
  rw [Sh.nums_texts] at HN
  go_wp2_with fail
  refine HN.out.mono ?_
  rintro e u2 ⟨hb2, na, nc, rfl, hn2⟩
  have HB2 := hid (bel_then HB1.out hb2)
  have HR2 := hid (Shape.below HR1.out hb2)
  obtain ⟨bw, ow, rfl, hbw, hcw0⟩ := (Texts.of_rep HR2.out).at (j := 0) (by omega)
  have hcw : u2.cell? ⟨bw, ow, none⟩ = some (.string ⟨w0.toArray⟩) := hcw0
  obtain ⟨x0, hx0⟩ : ∃ x0 : ByteArray, (⟨w0.toArray⟩ : ByteArray) = x0 := ⟨_, rfl⟩
  have hx0d : x0.data.toList = w0 := by rw [← hx0]
  rw [hx0] at hcw
  clear hb2 HN hcw0 hx0 hD
  have q0 : (x0.toList == ([97, 115, 107] : List UInt8)) = false := word_no (by rw [hx0d, h0]; decide)
  have q1 : (x0.toList == ([100, 101, 108, 105, 118, 101, 114] : List UInt8)) = false := word_no (by rw [hx0d, h0]; decide)
  have q2 : (x0.toList == ([100, 114, 111, 112] : List UInt8)) = false := word_no (by rw [hx0d, h0]; decide)
  have q3 : (x0.toList == ([116, 119, 105, 99, 101] : List UInt8)) = false := word_no (by rw [hx0d, h0]; decide)
  have q4 : (x0.toList == ([97, 100, 100] : List UInt8)) = false := word_no (by rw [hx0d, h0]; decide)
  have q5 : (x0.toList == ([114, 101, 116, 105, 114, 101] : List UInt8)) = false := word_no (by rw [hx0d, h0]; decide)
  have q6 : (x0.toList == ([98, 97, 103] : List UInt8)) = false := word_no (by rw [hx0d, h0]; decide)
  have q7 : (x0.toList == ([100, 111, 110, 101] : List UInt8)) = true := word_yes (hx0d.trans h0)
  have hne : ((n : Int) == 0) = false := by rw [beq_eq_false_iff_ne]; omega
  clear h0 hn hk
  have HT : Hid (Calls Tryz.prog 19 #[.int .i64 2] u2 _) := stold 2 (by omega) u2
  clear hx0d hn2
  go_wp2_with fail
  refine HT.out.mono ?_
  rintro e u3 ⟨rfl, hb3⟩
  go_wp2
  go_ret
  exact ⟨rfl, Moved.same HH.out.1 (bel_then HB2.out hb3)⟩
set_option maxRecDepth 100000 in
set_option maxHeartbeats 4000000 in
theorem ltell_ask (H : FlAt O V w p 1 Sc.msS s (Ft.qs Sc.msS s)) (hA : Alive 1 Sc.msS Sc.tS s) (d : ByteArray) (hd : d.size ≤ 2900) (w0 : List UInt8) (hp : Sh.pieces 32 d.data.toList = w0 :: []) (hall : ∀ z ∈ ([] : List (List UInt8)), Sh.Num z) (h0 : w0 = Sc.askW) :
    Calls Tryz.prog 13 #[.pointer (some ⟨p, 0, none⟩), .string d] w fun e w' => e = .returned (.string ⟨(Sc.act s w0 ([].map Sh.val)).2.toArray⟩) ∧ Moved O V w w' p (Sc.act s w0 ([].map Sh.val)).1 := by
  have ha : Sc.act s w0 (([] : List (List UInt8)).map Sh.val) = (Ft.ask Sc.msS s, Sc.okW) := by
    rw [h0]
    show Sc.act s Sc.askW [] = _
    unfold Sc.act
    rw [if_pos ⟨rfl, rfl⟩]
    all_goals rfl
  rw [ha]
  clear ha
  obtain ⟨r, hr⟩ : ∃ r : List (List UInt8), r = [] := ⟨_, rfl⟩
  rw [← hr] at hp hall
  have HH := hid (And.intro H hA)
  have HSZ := hid (piece_sizes d hd hp)
  obtain ⟨n, hn⟩ : ∃ n, r.length = n := ⟨_, rfl⟩
  have hn3 : n ≤ 2900 := by
    have h1 := Sh.pieces_len 32 d.data.toList
    rw [hp, List.length_cons, hn, list_size] at h1
    omega
  have HS : Hid (Calls Tryz.prog 11 #[.string d, .int .u8 32] w _) := rsplit d 32 (by omega) (n + 1) (by rw [hp, List.length_cons, hn]) w
  rw [hp] at HS
  clear H hA hp hd
  go_enter Tryz.func13, Tryz.ntmps13
  go_wp2_with fail
  refine HS.out.mono ?_
  rintro e u1 ⟨hb1, a1, c1, rfl, ho1⟩
  have hr1 := ho1.texts_high
  obtain ⟨D, C, hD, hrD⟩ := words_tail hr1
  have hrD2 : bagS.rep u1 everywhere [.slice D n C] (Sh.texts r) := Shape.any hrD
  have HB1 := hid hb1
  have HR1 := hid (Shape.any hr1)
  clear hb1 hr1 hrD HS ho1
  have HN : Hid (Calls _ _ _ _ _) := rnumbers_yes D n C (Sh.texts r) u1 hrD2 (by omega) HSZ.out ((Sh.num_texts r).2 hall)
  clear hrD2 hn3
  rw [Sh.nums_texts] at HN
  go_wp2_with fail
  refine HN.out.mono ?_
  rintro e u2 ⟨hb2, na, nc, rfl, hn2⟩
  have HB2 := hid (bel_then HB1.out hb2)
  have HR2 := hid (Shape.below HR1.out hb2)
  obtain ⟨bw, ow, rfl, hbw, hcw0⟩ := (Texts.of_rep HR2.out).at (j := 0) (by omega)
  have hcw : u2.cell? ⟨bw, ow, none⟩ = some (.string ⟨w0.toArray⟩) := hcw0
  obtain ⟨x0, hx0⟩ : ∃ x0 : ByteArray, (⟨w0.toArray⟩ : ByteArray) = x0 := ⟨_, rfl⟩
  have hx0d : x0.data.toList = w0 := by rw [← hx0]
  rw [hx0] at hcw
  clear hb2 HN hcw0 hx0 hD
  subst hr
  have hn9 : n = 0 := hn.symm
  subst hn9
  have q0 : (x0.toList == ([97, 115, 107] : List UInt8)) = true := word_yes (hx0d.trans h0)
  have q1 : (x0.toList == ([100, 101, 108, 105, 118, 101, 114] : List UInt8)) = false := word_no (by rw [hx0d, h0]; decide)
  have q2 : (x0.toList == ([100, 114, 111, 112] : List UInt8)) = false := word_no (by rw [hx0d, h0]; decide)
  have q3 : (x0.toList == ([116, 119, 105, 99, 101] : List UInt8)) = false := word_no (by rw [hx0d, h0]; decide)
  have q4 : (x0.toList == ([97, 100, 100] : List UInt8)) = false := word_no (by rw [hx0d, h0]; decide)
  have q5 : (x0.toList == ([114, 101, 116, 105, 114, 101] : List UInt8)) = false := word_no (by rw [hx0d, h0]; decide)
  have q6 : (x0.toList == ([98, 97, 103] : List UInt8)) = false := word_no (by rw [hx0d, h0]; decide)
  have q7 : (x0.toList == ([100, 111, 110, 101] : List UInt8)) = false := word_no (by rw [hx0d, h0]; decide)
  clear h0 hn hx0d
  have HD : Hid (Calls _ _ _ _ _) := qask (HH.out.1.keep HB2.out) HH.out.2
  go_wp2_with fail
  refine HD.out.mono ?_
  rintro e u3 ⟨rfl, hm3⟩
  go_wp2
  go_ret
  exact ⟨rfl, Moved.ahead HB2.out hm3⟩
set_option maxRecDepth 100000 in
set_option maxHeartbeats 4000000 in
theorem ltell_deliver (H : FlAt O V w p 1 Sc.msS s (Ft.qs Sc.msS s)) (hA : Alive 1 Sc.msS Sc.tS s) (d : ByteArray) (hd : d.size ≤ 2900) (w0 : List UInt8) (x : List UInt8) (hp : Sh.pieces 32 d.data.toList = w0 :: [x]) (hall : ∀ z ∈ ([x] : List (List UInt8)), Sh.Num z) (h0 : w0 = Sc.deliverW) :
    Calls Tryz.prog 13 #[.pointer (some ⟨p, 0, none⟩), .string d] w fun e w' => e = .returned (.string ⟨(Sc.act s w0 ([x].map Sh.val)).2.toArray⟩) ∧ Moved O V w w' p (Sc.act s w0 ([x].map Sh.val)).1 := by
  have ha : Sc.act s w0 (([x] : List (List UInt8)).map Sh.val) = (Ft.deliver 1 Sc.msS s (Sh.val x), Sc.told (if Sh.val x < s.bag.length then 0 else 4)) := by
    rw [h0]
    show Sc.act s Sc.deliverW [Sh.val x] = _
    unfold Sc.act
    rw [if_neg (fun k => absurd k.1 (by decide)), if_pos ⟨rfl, rfl⟩]
    all_goals rfl
  rw [ha]
  clear ha
  have HD : Hid (∀ u, Below w.heap.size w u → Calls _ _ _ u _) := fun u hu => qdeliver (H.keep hu) hA (Sh.val x)
  have hk2 : (if Sh.val x < s.bag.length then 0 else 4 : Nat) ≤ 100 := by split <;> omega
  have hk3 : Sc.told (if Sh.val x < s.bag.length then 0 else 4) = Sc.told ((if Sh.val x < s.bag.length then 0 else 4 : Nat) : Int) := by split <;> rfl
  rw [hk3]
  clear hk3
  generalize (if Sh.val x < s.bag.length then 0 else 4 : Nat) = q at *
  have HT : Hid (∀ u, Calls _ _ _ u _) := fun u => stold q hk2 u
  clear hk2
  obtain ⟨r, hr⟩ : ∃ r : List (List UInt8), r = [x] := ⟨_, rfl⟩
  rw [← hr] at hp hall
  have HH := hid (And.intro H hA)
  have HSZ := hid (piece_sizes d hd hp)
  obtain ⟨n, hn⟩ : ∃ n, r.length = n := ⟨_, rfl⟩
  have hn3 : n ≤ 2900 := by
    have h1 := Sh.pieces_len 32 d.data.toList
    rw [hp, List.length_cons, hn, list_size] at h1
    omega
  have HS : Hid (Calls Tryz.prog 11 #[.string d, .int .u8 32] w _) := rsplit d 32 (by omega) (n + 1) (by rw [hp, List.length_cons, hn]) w
  rw [hp] at HS
  clear H hA hp hd
  go_enter Tryz.func13, Tryz.ntmps13
  go_wp2_with fail
  refine HS.out.mono ?_
  rintro e u1 ⟨hb1, a1, c1, rfl, ho1⟩
  have hr1 := ho1.texts_high
  obtain ⟨D, C, hD, hrD⟩ := words_tail hr1
  have hrD2 : bagS.rep u1 everywhere [.slice D n C] (Sh.texts r) := Shape.any hrD
  have HB1 := hid hb1
  have HR1 := hid (Shape.any hr1)
  clear hb1 hr1 hrD HS ho1
  have HN : Hid (Calls _ _ _ _ _) := rnumbers_yes D n C (Sh.texts r) u1 hrD2 (by omega) HSZ.out ((Sh.num_texts r).2 hall)
  clear hrD2 hn3
  rw [Sh.nums_texts] at HN
  go_wp2_with fail
  refine HN.out.mono ?_
  rintro e u2 ⟨hb2, na, nc, rfl, hn2⟩
  have HB2 := hid (bel_then HB1.out hb2)
  have HR2 := hid (Shape.below HR1.out hb2)
  obtain ⟨bw, ow, rfl, hbw, hcw0⟩ := (Texts.of_rep HR2.out).at (j := 0) (by omega)
  have hcw : u2.cell? ⟨bw, ow, none⟩ = some (.string ⟨w0.toArray⟩) := hcw0
  obtain ⟨x0, hx0⟩ : ∃ x0 : ByteArray, (⟨w0.toArray⟩ : ByteArray) = x0 := ⟨_, rfl⟩
  have hx0d : x0.data.toList = w0 := by rw [← hx0]
  rw [hx0] at hcw
  clear hb2 HN hcw0 hx0 hD
  subst hr
  have hn9 : n = 1 := hn.symm
  subst hn9
  have q0 : (x0.toList == ([97, 115, 107] : List UInt8)) = false := word_no (by rw [hx0d, h0]; decide)
  have q1 : (x0.toList == ([100, 101, 108, 105, 118, 101, 114] : List UInt8)) = true := word_yes (hx0d.trans h0)
  have q2 : (x0.toList == ([100, 114, 111, 112] : List UInt8)) = false := word_no (by rw [hx0d, h0]; decide)
  have q3 : (x0.toList == ([116, 119, 105, 99, 101] : List UInt8)) = false := word_no (by rw [hx0d, h0]; decide)
  have q4 : (x0.toList == ([97, 100, 100] : List UInt8)) = false := word_no (by rw [hx0d, h0]; decide)
  have q5 : (x0.toList == ([114, 101, 116, 105, 114, 101] : List UInt8)) = false := word_no (by rw [hx0d, h0]; decide)
  have q6 : (x0.toList == ([98, 97, 103] : List UInt8)) = false := word_no (by rw [hx0d, h0]; decide)
  have q7 : (x0.toList == ([100, 111, 110, 101] : List UInt8)) = false := word_no (by rw [hx0d, h0]; decide)
  clear h0 hn hx0d
  have hn3 : rowS.rep u2 everywhere [.slice na 1 nc] [((Sh.val x : Nat) : Int)] := Shape.any hn2.high
  obtain ⟨bn, on, rfl, hbn, hcn0⟩ := (Row.of_rep hn3).at (j := 0) (by omega)
  have hcn : u2.cell? ⟨bn, on, none⟩ = some (.int .i64 (Sh.val x : Nat)) := hcn0
  clear hn2 hn3 hcn0
  go_wp2_with fail
  refine (HD.out u2 HB2.out).mono ?_
  rintro e u3 ⟨rfl, hm3⟩
  have HM3 := hid hm3
  clear hm3
  go_wp2_with fail
  refine (HT.out u3).mono ?_
  rintro e u4 ⟨rfl, hb4⟩
  go_wp2
  go_ret
  exact ⟨rfl, Moved.bel (Moved.ahead HB2.out HM3.out) hb4⟩
set_option maxRecDepth 100000 in
set_option maxHeartbeats 4000000 in
theorem ltell_drop (H : FlAt O V w p 1 Sc.msS s (Ft.qs Sc.msS s)) (hA : Alive 1 Sc.msS Sc.tS s) (d : ByteArray) (hd : d.size ≤ 2900) (w0 : List UInt8) (x : List UInt8) (hp : Sh.pieces 32 d.data.toList = w0 :: [x]) (hall : ∀ z ∈ ([x] : List (List UInt8)), Sh.Num z) (h0 : w0 = Sc.dropW) :
    Calls Tryz.prog 13 #[.pointer (some ⟨p, 0, none⟩), .string d] w fun e w' => e = .returned (.string ⟨(Sc.act s w0 ([x].map Sh.val)).2.toArray⟩) ∧ Moved O V w w' p (Sc.act s w0 ([x].map Sh.val)).1 := by
  have ha : Sc.act s w0 (([x] : List (List UInt8)).map Sh.val) = (Ft.drop s (Sh.val x), Sc.told (if Sh.val x < s.bag.length then 0 else 4)) := by
    rw [h0]
    show Sc.act s Sc.dropW [Sh.val x] = _
    unfold Sc.act
    rw [if_neg (fun k => absurd k.1 (by decide)), if_neg (fun k => absurd k.1 (by decide)), if_pos ⟨rfl, rfl⟩]
    all_goals rfl
  rw [ha]
  clear ha
  have HD : Hid (∀ u, Below w.heap.size w u → Calls _ _ _ u _) := fun u hu => qdrop (H.keep hu) hA (Sh.val x)
  have hk2 : (if Sh.val x < s.bag.length then 0 else 4 : Nat) ≤ 100 := by split <;> omega
  have hk3 : Sc.told (if Sh.val x < s.bag.length then 0 else 4) = Sc.told ((if Sh.val x < s.bag.length then 0 else 4 : Nat) : Int) := by split <;> rfl
  rw [hk3]
  clear hk3
  generalize (if Sh.val x < s.bag.length then 0 else 4 : Nat) = q at *
  have HT : Hid (∀ u, Calls _ _ _ u _) := fun u => stold q hk2 u
  clear hk2
  obtain ⟨r, hr⟩ : ∃ r : List (List UInt8), r = [x] := ⟨_, rfl⟩
  rw [← hr] at hp hall
  have HH := hid (And.intro H hA)
  have HSZ := hid (piece_sizes d hd hp)
  obtain ⟨n, hn⟩ : ∃ n, r.length = n := ⟨_, rfl⟩
  have hn3 : n ≤ 2900 := by
    have h1 := Sh.pieces_len 32 d.data.toList
    rw [hp, List.length_cons, hn, list_size] at h1
    omega
  have HS : Hid (Calls Tryz.prog 11 #[.string d, .int .u8 32] w _) := rsplit d 32 (by omega) (n + 1) (by rw [hp, List.length_cons, hn]) w
  rw [hp] at HS
  clear H hA hp hd
  go_enter Tryz.func13, Tryz.ntmps13
  go_wp2_with fail
  refine HS.out.mono ?_
  rintro e u1 ⟨hb1, a1, c1, rfl, ho1⟩
  have hr1 := ho1.texts_high
  obtain ⟨D, C, hD, hrD⟩ := words_tail hr1
  have hrD2 : bagS.rep u1 everywhere [.slice D n C] (Sh.texts r) := Shape.any hrD
  have HB1 := hid hb1
  have HR1 := hid (Shape.any hr1)
  clear hb1 hr1 hrD HS ho1
  have HN : Hid (Calls _ _ _ _ _) := rnumbers_yes D n C (Sh.texts r) u1 hrD2 (by omega) HSZ.out ((Sh.num_texts r).2 hall)
  clear hrD2 hn3
  rw [Sh.nums_texts] at HN
  go_wp2_with fail
  refine HN.out.mono ?_
  rintro e u2 ⟨hb2, na, nc, rfl, hn2⟩
  have HB2 := hid (bel_then HB1.out hb2)
  have HR2 := hid (Shape.below HR1.out hb2)
  obtain ⟨bw, ow, rfl, hbw, hcw0⟩ := (Texts.of_rep HR2.out).at (j := 0) (by omega)
  have hcw : u2.cell? ⟨bw, ow, none⟩ = some (.string ⟨w0.toArray⟩) := hcw0
  obtain ⟨x0, hx0⟩ : ∃ x0 : ByteArray, (⟨w0.toArray⟩ : ByteArray) = x0 := ⟨_, rfl⟩
  have hx0d : x0.data.toList = w0 := by rw [← hx0]
  rw [hx0] at hcw
  clear hb2 HN hcw0 hx0 hD
  subst hr
  have hn9 : n = 1 := hn.symm
  subst hn9
  have q0 : (x0.toList == ([97, 115, 107] : List UInt8)) = false := word_no (by rw [hx0d, h0]; decide)
  have q1 : (x0.toList == ([100, 101, 108, 105, 118, 101, 114] : List UInt8)) = false := word_no (by rw [hx0d, h0]; decide)
  have q2 : (x0.toList == ([100, 114, 111, 112] : List UInt8)) = true := word_yes (hx0d.trans h0)
  have q3 : (x0.toList == ([116, 119, 105, 99, 101] : List UInt8)) = false := word_no (by rw [hx0d, h0]; decide)
  have q4 : (x0.toList == ([97, 100, 100] : List UInt8)) = false := word_no (by rw [hx0d, h0]; decide)
  have q5 : (x0.toList == ([114, 101, 116, 105, 114, 101] : List UInt8)) = false := word_no (by rw [hx0d, h0]; decide)
  have q6 : (x0.toList == ([98, 97, 103] : List UInt8)) = false := word_no (by rw [hx0d, h0]; decide)
  have q7 : (x0.toList == ([100, 111, 110, 101] : List UInt8)) = false := word_no (by rw [hx0d, h0]; decide)
  clear h0 hn hx0d
  have hn3 : rowS.rep u2 everywhere [.slice na 1 nc] [((Sh.val x : Nat) : Int)] := Shape.any hn2.high
  obtain ⟨bn, on, rfl, hbn, hcn0⟩ := (Row.of_rep hn3).at (j := 0) (by omega)
  have hcn : u2.cell? ⟨bn, on, none⟩ = some (.int .i64 (Sh.val x : Nat)) := hcn0
  clear hn2 hn3 hcn0
  go_wp2_with fail
  refine (HD.out u2 HB2.out).mono ?_
  rintro e u3 ⟨rfl, hm3⟩
  have HM3 := hid hm3
  clear hm3
  go_wp2_with fail
  refine (HT.out u3).mono ?_
  rintro e u4 ⟨rfl, hb4⟩
  go_wp2
  go_ret
  exact ⟨rfl, Moved.bel (Moved.ahead HB2.out HM3.out) hb4⟩
set_option maxRecDepth 100000 in
set_option maxHeartbeats 4000000 in
theorem ltell_twice (H : FlAt O V w p 1 Sc.msS s (Ft.qs Sc.msS s)) (hA : Alive 1 Sc.msS Sc.tS s) (d : ByteArray) (hd : d.size ≤ 2900) (w0 : List UInt8) (x : List UInt8) (hp : Sh.pieces 32 d.data.toList = w0 :: [x]) (hall : ∀ z ∈ ([x] : List (List UInt8)), Sh.Num z) (h0 : w0 = Sc.twiceW) :
    Calls Tryz.prog 13 #[.pointer (some ⟨p, 0, none⟩), .string d] w fun e w' => e = .returned (.string ⟨(Sc.act s w0 ([x].map Sh.val)).2.toArray⟩) ∧ Moved O V w w' p (Sc.act s w0 ([x].map Sh.val)).1 := by
  have ha : Sc.act s w0 (([x] : List (List UInt8)).map Sh.val) = (Ft.twice s (Sh.val x), Sc.told (if Sh.val x < s.bag.length then 0 else 4)) := by
    rw [h0]
    show Sc.act s Sc.twiceW [Sh.val x] = _
    unfold Sc.act
    rw [if_neg (fun k => absurd k.1 (by decide)), if_neg (fun k => absurd k.1 (by decide)), if_neg (fun k => absurd k.1 (by decide)), if_pos ⟨rfl, rfl⟩]
    all_goals rfl
  rw [ha]
  clear ha
  have HD : Hid (∀ u, Below w.heap.size w u → Calls _ _ _ u _) := fun u hu => qtwice (H.keep hu) hA (Sh.val x)
  have hk2 : (if Sh.val x < s.bag.length then 0 else 4 : Nat) ≤ 100 := by split <;> omega
  have hk3 : Sc.told (if Sh.val x < s.bag.length then 0 else 4) = Sc.told ((if Sh.val x < s.bag.length then 0 else 4 : Nat) : Int) := by split <;> rfl
  rw [hk3]
  clear hk3
  generalize (if Sh.val x < s.bag.length then 0 else 4 : Nat) = q at *
  have HT : Hid (∀ u, Calls _ _ _ u _) := fun u => stold q hk2 u
  clear hk2
  obtain ⟨r, hr⟩ : ∃ r : List (List UInt8), r = [x] := ⟨_, rfl⟩
  rw [← hr] at hp hall
  have HH := hid (And.intro H hA)
  have HSZ := hid (piece_sizes d hd hp)
  obtain ⟨n, hn⟩ : ∃ n, r.length = n := ⟨_, rfl⟩
  have hn3 : n ≤ 2900 := by
    have h1 := Sh.pieces_len 32 d.data.toList
    rw [hp, List.length_cons, hn, list_size] at h1
    omega
  have HS : Hid (Calls Tryz.prog 11 #[.string d, .int .u8 32] w _) := rsplit d 32 (by omega) (n + 1) (by rw [hp, List.length_cons, hn]) w
  rw [hp] at HS
  clear H hA hp hd
  go_enter Tryz.func13, Tryz.ntmps13
  go_wp2_with fail
  refine HS.out.mono ?_
  rintro e u1 ⟨hb1, a1, c1, rfl, ho1⟩
  have hr1 := ho1.texts_high
  obtain ⟨D, C, hD, hrD⟩ := words_tail hr1
  have hrD2 : bagS.rep u1 everywhere [.slice D n C] (Sh.texts r) := Shape.any hrD
  have HB1 := hid hb1
  have HR1 := hid (Shape.any hr1)
  clear hb1 hr1 hrD HS ho1
  have HN : Hid (Calls _ _ _ _ _) := rnumbers_yes D n C (Sh.texts r) u1 hrD2 (by omega) HSZ.out ((Sh.num_texts r).2 hall)
  clear hrD2 hn3
  rw [Sh.nums_texts] at HN
  go_wp2_with fail
  refine HN.out.mono ?_
  rintro e u2 ⟨hb2, na, nc, rfl, hn2⟩
  have HB2 := hid (bel_then HB1.out hb2)
  have HR2 := hid (Shape.below HR1.out hb2)
  obtain ⟨bw, ow, rfl, hbw, hcw0⟩ := (Texts.of_rep HR2.out).at (j := 0) (by omega)
  have hcw : u2.cell? ⟨bw, ow, none⟩ = some (.string ⟨w0.toArray⟩) := hcw0
  obtain ⟨x0, hx0⟩ : ∃ x0 : ByteArray, (⟨w0.toArray⟩ : ByteArray) = x0 := ⟨_, rfl⟩
  have hx0d : x0.data.toList = w0 := by rw [← hx0]
  rw [hx0] at hcw
  clear hb2 HN hcw0 hx0 hD
  subst hr
  have hn9 : n = 1 := hn.symm
  subst hn9
  have q0 : (x0.toList == ([97, 115, 107] : List UInt8)) = false := word_no (by rw [hx0d, h0]; decide)
  have q1 : (x0.toList == ([100, 101, 108, 105, 118, 101, 114] : List UInt8)) = false := word_no (by rw [hx0d, h0]; decide)
  have q2 : (x0.toList == ([100, 114, 111, 112] : List UInt8)) = false := word_no (by rw [hx0d, h0]; decide)
  have q3 : (x0.toList == ([116, 119, 105, 99, 101] : List UInt8)) = true := word_yes (hx0d.trans h0)
  have q4 : (x0.toList == ([97, 100, 100] : List UInt8)) = false := word_no (by rw [hx0d, h0]; decide)
  have q5 : (x0.toList == ([114, 101, 116, 105, 114, 101] : List UInt8)) = false := word_no (by rw [hx0d, h0]; decide)
  have q6 : (x0.toList == ([98, 97, 103] : List UInt8)) = false := word_no (by rw [hx0d, h0]; decide)
  have q7 : (x0.toList == ([100, 111, 110, 101] : List UInt8)) = false := word_no (by rw [hx0d, h0]; decide)
  clear h0 hn hx0d
  have hn3 : rowS.rep u2 everywhere [.slice na 1 nc] [((Sh.val x : Nat) : Int)] := Shape.any hn2.high
  obtain ⟨bn, on, rfl, hbn, hcn0⟩ := (Row.of_rep hn3).at (j := 0) (by omega)
  have hcn : u2.cell? ⟨bn, on, none⟩ = some (.int .i64 (Sh.val x : Nat)) := hcn0
  clear hn2 hn3 hcn0
  go_wp2_with fail
  refine (HD.out u2 HB2.out).mono ?_
  rintro e u3 ⟨rfl, hm3⟩
  have HM3 := hid hm3
  clear hm3
  go_wp2_with fail
  refine (HT.out u3).mono ?_
  rintro e u4 ⟨rfl, hb4⟩
  go_wp2
  go_ret
  exact ⟨rfl, Moved.bel (Moved.ahead HB2.out HM3.out) hb4⟩
end

end Go.Proofs.YtokfcjgfpchffaaGreatDoor
