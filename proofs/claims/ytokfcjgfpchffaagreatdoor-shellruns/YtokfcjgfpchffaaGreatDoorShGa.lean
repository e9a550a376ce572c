/- What a line tells, as the statements of layer 20 have it: lines that are none, and words with too many numbers, or too few (written by wip/tools/mk-ltell.py). -/
import Derived.Test.YtokfcjgfpchffaaGreatDoorShF
namespace Go.Proofs.YtokfcjgfpchffaaGreatDoor
open Go.ChangeShapes Go.WideShapes Go.ChangeAt Go.RowKit



section
variable {O V : Nat → Prop} {w : World} {p : Nat} {s : Ft.St}
set_option maxRecDepth 100000 in
set_option maxHeartbeats 4000000 in
theorem ltell_bad (H : FlAt O V w p 1 Sc.msS s (Ft.qs Sc.msS s)) (hA : Alive 1 Sc.msS Sc.tS s) (d : ByteArray) (hd : d.size ≤ 2900) (w0 : List UInt8) (r : List (List UInt8)) (hp : Sh.pieces 32 d.data.toList = w0 :: r) (hall : ¬ ∀ x ∈ r, Sh.Num x) :
    Calls Tryz.prog 13 #[.pointer (some ⟨p, 0, none⟩), .string d] w fun e w' => e = .returned (.string ⟨(Sc.told 2).toArray⟩) ∧ Moved O V w w' p s := by
  rcases Sh.first_bad (Sh.texts r) with h9 | ⟨m, hm1, hm2, hm3⟩
  · exact absurd ((Sh.num_texts r).1 h9) hall
  · rw [Sh.texts_len] at hm1
    have HM := hid (And.intro hm2 hm3)
    clear hm2 hm3 hall
    have HH := hid (And.intro H hA)
    have HSZ := hid (piece_sizes d hd hp)
    obtain ⟨n, hn⟩ : ∃ n, r.length = n := ⟨_, rfl⟩
    have hn3 : n ≤ 2900 := by
      have h1 := Sh.pieces_len 32 d.data.toList
      rw [hp, List.length_cons, hn, list_size] at h1
      omega
    have HS : Hid (Calls Tryz.prog 11 #[.string d, .int .u8 32] w _) := rsplit d 32 (by omega) (n + 1) (by rw [hp, List.length_cons, hn]) w
    rw [hp] at HS
    clear H hA hp hd
    go_enter Tryz.func13, Tryz.ntmps13
    go_wp2_with fail
    refine HS.out.mono ?_
    rintro e u1 ⟨hb1, a1, c1, rfl, ho1⟩
    have hr1 := ho1.texts_high
    obtain ⟨D, C, hD, hrD⟩ := words_tail hr1
    have hrD2 : bagS.rep u1 everywhere [.slice D n C] (Sh.texts r) := Shape.any hrD
    have HB1 := hid hb1
    have HR1 := hid (Shape.any hr1)
    clear hb1 hr1 hrD HS ho1
    rw [hn] at hm1
    have HN : Hid (Calls _ _ _ _ _) := rnumbers_no D n C (Sh.texts r) u1 hrD2 (by omega) HSZ.out m hm1 HM.out.1 HM.out.2
    clear hrD2 hn3 hm1
    go_wp2_with fail
    refine HN.out.mono ?_
    rintro e u2 ⟨hb2, rfl⟩
    have HB2 := hid (bel_then HB1.out hb2)
    have HT : Hid (Calls Tryz.prog 19 #[.int .i64 2] u2 _) := stold 2 (by omega) u2
    clear hb2 HN hD
    go_wp2_with fail
    refine HT.out.mono ?_
    rintro e u3 ⟨rfl, hb3⟩
    go_wp2
    go_ret
    exact ⟨rfl, Moved.same HH.out.1 (bel_then HB2.out hb3)⟩
set_option maxRecDepth 100000 in
set_option maxHeartbeats 4000000 in
theorem ltell_none (H : FlAt O V w p 1 Sc.msS s (Ft.qs Sc.msS s)) (hA : Alive 1 Sc.msS Sc.tS s) (d : ByteArray) (hd : d.size ≤ 2900) (w0 : List UInt8) (r : List (List UInt8)) (hp : Sh.pieces 32 d.data.toList = w0 :: r) (hall : ∀ x ∈ r, Sh.Num x) (hno : w0 ∉ [Sc.askW, Sc.deliverW, Sc.dropW, Sc.twiceW, Sc.addW, Sc.retireW, Sc.bagW, Sc.doneW]) :
    Calls Tryz.prog 13 #[.pointer (some ⟨p, 0, none⟩), .string d] w fun e w' => e = .returned (.string ⟨(Sc.told 2).toArray⟩) ∧ Moved O V w w' p s := by
  have HH := hid (And.intro H hA)
  have HSZ := hid (piece_sizes d hd hp)
  obtain ⟨n, hn⟩ : ∃ n, r.length = n := ⟨_, rfl⟩
  have hn3 : n ≤ 2900 := by
    have h1 := Sh.pieces_len 32 d.data.toList
    rw [hp, List.length_cons, hn, list_size] at h1
    omega
  have HS : Hid (Calls Tryz.prog 11 #[.string d, .int .u8 32] w _) := rsplit d 32 (by omega) (n + 1) (by rw [hp, List.length_cons, hn]) w
  rw [hp] at HS
  clear H hA hp hd
  go_enter Tryz.func13, Tryz.ntmps13
  go_wp2_with fail
  refine HS.out.mono ?_
  rintro e u1 ⟨hb1, a1, c1, rfl, ho1⟩
  have hr1 := ho1.texts_high
  obtain ⟨D, C, hD, hrD⟩ := words_tail hr1
  have hrD2 : bagS.rep u1 everywhere [.slice D n C] (Sh.texts r) := Shape.any hrD
  have HB1 := hid hb1
  have HR1 := hid (Shape.any hr1)
  clear hb1 hr1 hrD HS ho1
  have HN : Hid (Calls _ _ _ _ _) := rnumbers_yes D n C (Sh.texts r) u1 hrD2 (by omega) HSZ.out ((Sh.num_texts r).2 hall)
  clear hrD2 hn3
  rw [Sh.nums_texts] at HN
  go_wp2_with fail
  refine HN.out.mono ?_
  rintro e u2 ⟨hb2, na, nc, rfl, hn2⟩
  have HB2 := hid (bel_then HB1.out hb2)
  have HR2 := hid (Shape.below HR1.out hb2)
  obtain ⟨bw, ow, rfl, hbw, hcw0⟩ := (Texts.of_rep HR2.out).at (j := 0) (by omega)
  have hcw : u2.cell? ⟨bw, ow, none⟩ = some (.string ⟨w0.toArray⟩) := hcw0
  obtain ⟨x0, hx0⟩ : ∃ x0 : ByteArray, (⟨w0.toArray⟩ : ByteArray) = x0 := ⟨_, rfl⟩
  have hx0d : x0.data.toList = w0 := by rw [← hx0]
  rw [hx0] at hcw
  clear hb2 HN hcw0 hx0 hD
  have q0 : (x0.toList == ([97, 115, 107] : List UInt8)) = false := word_no (by rw [hx0d]; exact fun k => hno (by rw [k]; decide))
  have q1 : (x0.toList == ([100, 101, 108, 105, 118, 101, 114] : List UInt8)) = false := word_no (by rw [hx0d]; exact fun k => hno (by rw [k]; decide))
  have q2 : (x0.toList == ([100, 114, 111, 112] : List UInt8)) = false := word_no (by rw [hx0d]; exact fun k => hno (by rw [k]; decide))
  have q3 : (x0.toList == ([116, 119, 105, 99, 101] : List UInt8)) = false := word_no (by rw [hx0d]; exact fun k => hno (by rw [k]; decide))
  have q4 : (x0.toList == ([97, 100, 100] : List UInt8)) = false := word_no (by rw [hx0d]; exact fun k => hno (by rw [k]; decide))
  have q5 : (x0.toList == ([114, 101, 116, 105, 114, 101] : List UInt8)) = false := word_no (by rw [hx0d]; exact fun k => hno (by rw [k]; decide))
  have q6 : (x0.toList == ([98, 97, 103] : List UInt8)) = false := word_no (by rw [hx0d]; exact fun k => hno (by rw [k]; decide))
  have q7 : (x0.toList == ([100, 111, 110, 101] : List UInt8)) = false := word_no (by rw [hx0d]; exact fun k => hno (by rw [k]; decide))
  clear hno hn
  have HT : Hid (Calls Tryz.prog 19 #[.int .i64 2] u2 _) := stold 2 (by omega) u2
  clear hx0d hn2
  go_wp2_with fail
  refine HT.out.mono ?_
  rintro e u3 ⟨rfl, hb3⟩
  go_wp2
  go_ret
  exact ⟨rfl, Moved.same HH.out.1 (bel_then HB2.out hb3)⟩
set_option maxRecDepth 100000 in
set_option maxHeartbeats 4000000 in
theorem ltell_ask_else (H : FlAt O V w p 1 Sc.msS s (Ft.qs Sc.msS s)) (hA : Alive 1 Sc.msS Sc.tS s) (d : ByteArray) (hd : d.size ≤ 2900) (w0 : List UInt8) (r : List (List UInt8)) (hp : Sh.pieces 32 d.data.toList = w0 :: r) (hall : ∀ x ∈ r, Sh.Num x) (h0 : w0 = Sc.askW) (hk : r.length ≠ 0) :
    Calls Tryz.prog 13 #[.pointer (some ⟨p, 0, none⟩), .string d] w fun e w' => e = .returned (.string ⟨(Sc.told 2).toArray⟩) ∧ Moved O V w w' p s := by
  have HH := hid (And.intro H hA)
  have HSZ := hid (piece_sizes d hd hp)
  obtain ⟨n, hn⟩ : ∃ n, r.length = n := ⟨_, rfl⟩
  have hn3 : n ≤ 2900 := by
    have h1 := Sh.pieces_len 32 d.data.toList
    rw [hp, List.length_cons, hn, list_size] at h1
    omega
  have HS : Hid (Calls Tryz.prog 11 #[.string d, .int .u8 32] w _) := rsplit d 32 (by omega) (n + 1) (by rw [hp, List.length_cons, hn]) w
  rw [hp] at HS
  clear H hA hp hd
  go_enter Tryz.func13, Tryz.ntmps13
  go_wp2_with fail
  refine HS.out.mono ?_
  rintro e u1 ⟨hb1, a1, c1, rfl, ho1⟩
  have hr1 := ho1.texts_high
  obtain ⟨D, C, hD, hrD⟩ := words_tail hr1
  have hrD2 : bagS.rep u1 everywhere [.slice D n C] (Sh.texts r) := Shape.any hrD
  have HB1 := hid hb1
  have HR1 := hid (Shape.any hr1)
  clear hb1 hr1 hrD HS ho1
  have HN : Hid (Calls _ _ _ _ _) := rnumbers_yes D n C (Sh.texts r) u1 hrD2 (by omega) HSZ.out ((Sh.num_texts r).2 hall)
  clear hrD2 hn3
  rw [Sh.nums_texts] at HN
  go_wp2_with fail
  refine HN.out.mono ?_
  rintro e u2 ⟨hb2, na, nc, rfl, hn2⟩
  have HB2 := hid (bel_then HB1.out hb2)
  have HR2 := hid (Shape.below HR1.out hb2)
  obtain ⟨bw, ow, rfl, hbw, hcw0⟩ := (Texts.of_rep HR2.out).at (j := 0) (by omega)
  have hcw : u2.cell? ⟨bw, ow, none⟩ = some (.string ⟨w0.toArray⟩) := hcw0
  obtain ⟨x0, hx0⟩ : ∃ x0 : ByteArray, (⟨w0.toArray⟩ : ByteArray) = x0 := ⟨_, rfl⟩
  have hx0d : x0.data.toList = w0 := by rw [← hx0]
  rw [hx0] at hcw
  clear hb2 HN hcw0 hx0 hD
  have q0 : (x0.toList == ([97, 115, 107] : List UInt8)) = true := word_yes (hx0d.trans h0)
  have q1 : (x0.toList == ([100, 101, 108, 105, 118, 101, 114] : List UInt8)) = false := word_no (by rw [hx0d, h0]; decide)
  have q2 : (x0.toList == ([100, 114, 111, 112] : List UInt8)) = false := word_no (by rw [hx0d, h0]; decide)
  have q3 : (x0.toList == ([116, 119, 105, 99, 101] : List UInt8)) = false := word_no (by rw [hx0d, h0]; decide)
  have q4 : (x0.toList == ([97, 100, 100] : List UInt8)) = false := word_no (by rw [hx0d, h0]; decide)
  have q5 : (x0.toList == ([114, 101, 116, 105, 114, 101] : List UInt8)) = false := word_no (by rw [hx0d, h0]; decide)
  have q6 : (x0.toList == ([98, 97, 103] : List UInt8)) = false := word_no (by rw [hx0d, h0]; decide)
  have q7 : (x0.toList == ([100, 111, 110, 101] : List UInt8)) = false := word_no (by rw [hx0d, h0]; decide)
  have hne : ((n : Int) == 0) = false := by rw [beq_eq_false_iff_ne]; omega
  clear h0 hn hk
  have HT : Hid (Calls Tryz.prog 19 #[.int .i64 2] u2 _) := stold 2 (by omega) u2
  clear hx0d hn2
  go_wp2_with fail
  refine HT.out.mono ?_
  rintro e u3 ⟨rfl, hb3⟩
  go_wp2
  go_ret
  exact ⟨rfl, Moved.same HH.out.1 (bel_then HB2.out hb3)⟩
set_option maxRecDepth 100000 in
set_option maxHeartbeats 4000000 in
theorem ltell_deliver_else (H : FlAt O V w p 1 Sc.msS s (Ft.qs Sc.msS s)) (hA : Alive 1 Sc.msS Sc.tS s) (d : ByteArray) (hd : d.size ≤ 2900) (w0 : List UInt8) (r : List (List UInt8)) (hp : Sh.pieces 32 d.data.toList = w0 :: r) (hall : ∀ x ∈ r, Sh.Num x) (h0 : w0 = Sc.deliverW) (hk : r.length ≠ 1) :
    Calls Tryz.prog 13 #[.pointer (some ⟨p, 0, none⟩), .string d] w fun e w' => e = .returned (.string ⟨(Sc.told 2).toArray⟩) ∧ Moved O V w w' p s := by
  have HH := hid (And.intro H hA)
  have HSZ := hid (piece_sizes d hd hp)
  obtain ⟨n, hn⟩ : ∃ n, r.length = n := ⟨_, rfl⟩
  have hn3 : n ≤ 2900 := by
    have h1 := Sh.pieces_len 32 d.data.toList
    rw [hp, List.length_cons, hn, list_size] at h1
    omega
  have HS : Hid (Calls Tryz.prog 11 #[.string d, .int .u8 32] w _) := rsplit d 32 (by omega) (n + 1) (by rw [hp, List.length_cons, hn]) w
  rw [hp] at HS
  clear H hA hp hd
  go_enter Tryz.func13, Tryz.ntmps13
  go_wp2_with fail
  refine HS.out.mono ?_
  rintro e u1 ⟨hb1, a1, c1, rfl, ho1⟩
  have hr1 := ho1.texts_high
  obtain ⟨D, C, hD, hrD⟩ := words_tail hr1
  have hrD2 : bagS.rep u1 everywhere [.slice D n C] (Sh.texts r) := Shape.any hrD
  have HB1 := hid hb1
  have HR1 := hid (Shape.any hr1)
  clear hb1 hr1 hrD HS ho1
  have HN : Hid (Calls _ _ _ _ _) := rnumbers_yes D n C (Sh.texts r) u1 hrD2 (by omega) HSZ.out ((Sh.num_texts r).2 hall)
  clear hrD2 hn3
  rw [Sh.nums_texts] at HN
  go_wp2_with fail
  refine HN.out.mono ?_
  rintro e u2 ⟨hb2, na, nc, rfl, hn2⟩
  have HB2 := hid (bel_then HB1.out hb2)
  have HR2 := hid (Shape.below HR1.out hb2)
  obtain ⟨bw, ow, rfl, hbw, hcw0⟩ := (Texts.of_rep HR2.out).at (j := 0) (by omega)
  have hcw : u2.cell? ⟨bw, ow, none⟩ = some (.string ⟨w0.toArray⟩) := hcw0
  obtain ⟨x0, hx0⟩ : ∃ x0 : ByteArray, (⟨w0.toArray⟩ : ByteArray) = x0 := ⟨_, rfl⟩
  have hx0d : x0.data.toList = w0 := by rw [← hx0]
  rw [hx0] at hcw
  clear hb2 HN hcw0 hx0 hD
  have q0 : (x0.toList == ([97, 115, 107] : List UInt8)) = false := word_no (by rw [hx0d, h0]; decide)
  have q1 : (x0.toList == ([100, 101, 108, 105, 118, 101, 114] : List UInt8)) = true := word_yes (hx0d.trans h0)
  have q2 : (x0.toList == ([100, 114, 111, 112] : List UInt8)) = false := word_no (by rw [hx0d, h0]; decide)
  have q3 : (x0.toList == ([116, 119, 105, 99, 101] : List UInt8)) = false := word_no (by rw [hx0d, h0]; decide)
  have q4 : (x0.toList == ([97, 100, 100] : List UInt8)) = false := word_no (by rw [hx0d, h0]; decide)
  have q5 : (x0.toList == ([114, 101, 116, 105, 114, 101] : List UInt8)) = false := word_no (by rw [hx0d, h0]; decide)
  have q6 : (x0.toList == ([98, 97, 103] : List UInt8)) = false := word_no (by rw [hx0d, h0]; decide)
  have q7 : (x0.toList == ([100, 111, 110, 101] : List UInt8)) = false := word_no (by rw [hx0d, h0]; decide)
  have hne : ((n : Int) == 1) = false := by rw [beq_eq_false_iff_ne]; omega
  clear h0 hn hk
  have HT : Hid (Calls Tryz.prog 19 #[.int .i64 2] u2 _) := stold 2 (by omega) u2
  clear hx0d hn2
  go_wp2_with fail
  refine HT.out.mono ?_
  rintro e u3 ⟨rfl, hb3⟩
  go_wp2
  go_ret
  exact ⟨rfl, Moved.same HH.out.1 (bel_then HB2.out hb3)⟩
set_option maxRecDepth 100000 in
set_option maxHeartbeats 4000000 in
theorem ltell_drop_else (H : FlAt O V w p 1 Sc.msS s (Ft.qs Sc.msS s)) (hA : Alive 1 Sc.msS Sc.tS s) (d : ByteArray) (hd : d.size ≤ 2900) (w0 : List UInt8) (r : List (List UInt8)) (hp : Sh.pieces 32 d.data.toList = w0 :: r) (hall : ∀ x ∈ r, Sh.Num x) (h0 : w0 = Sc.dropW) (hk : r.length ≠ 1) :
    Calls Tryz.prog 13 #[.pointer (some ⟨p, 0, none⟩), .string d] w fun e w' => e = .returned (.string ⟨(Sc.told 2).toArray⟩) ∧ Moved O V w w' p s := by
  have HH := hid (And.intro H hA)
  have HSZ := hid (piece_sizes d hd hp)
  obtain ⟨n, hn⟩ : ∃ n, r.length = n := ⟨_, rfl⟩
  have hn3 : n ≤ 2900 := by
    have h1 := Sh.pieces_len 32 d.data.toList
    rw [hp, List.length_cons, hn, list_size] at h1
    omega
  have HS : Hid (Calls Tryz.prog 11 #[.string d, .int .u8 32] w _) := rsplit d 32 (by omega) (n + 1) (by rw [hp, List.length_cons, hn]) w
  rw [hp] at HS
  clear H hA hp hd
  go_enter Tryz.func13, Tryz.ntmps13
  go_wp2_with fail
  refine HS.out.mono ?_
  rintro e u1 ⟨hb1, a1, c1, rfl, ho1⟩
  have hr1 := ho1.texts_high
  obtain ⟨D, C, hD, hrD⟩ := words_tail hr1
  have hrD2 : bagS.rep u1 everywhere [.slice D n C] (Sh.texts r) := Shape.any hrD
  have HB1 := hid hb1
  have HR1 := hid (Shape.any hr1)
  clear hb1 hr1 hrD HS ho1
  have HN : Hid (Calls _ _ _ _ _) := rnumbers_yes D n C (Sh.texts r) u1 hrD2 (by omega) HSZ.out ((Sh.num_texts r).2 hall)
  clear hrD2 hn3
  rw [Sh.nums_texts] at HN
  go_wp2_with fail
  refine HN.out.mono ?_
  rintro e u2 ⟨hb2, na, nc, rfl, hn2⟩
  have HB2 := hid (bel_then HB1.out hb2)
  have HR2 := hid (Shape.below HR1.out hb2)
  obtain ⟨bw, ow, rfl, hbw, hcw0⟩ := (Texts.of_rep HR2.out).at (j := 0) (by omega)
  have hcw : u2.cell? ⟨bw, ow, none⟩ = some (.string ⟨w0.toArray⟩) := hcw0
  obtain ⟨x0, hx0⟩ : ∃ x0 : ByteArray, (⟨w0.toArray⟩ : ByteArray) = x0 := ⟨_, rfl⟩
  have hx0d : x0.data.toList = w0 := by rw [← hx0]
  rw [hx0] at hcw
  clear hb2 HN hcw0 hx0 hD
  have q0 : (x0.toList == ([97, 115, 107] : List UInt8)) = false := word_no (by rw [hx0d, h0]; decide)
  have q1 : (x0.toList == ([100, 101, 108, 105, 118, 101, 114] : List UInt8)) = false := word_no (by rw [hx0d, h0]; decide)
  have q2 : (x0.toList == ([100, 114, 111, 112] : List UInt8)) = true := word_yes (hx0d.trans h0)
  have q3 : (x0.toList == ([116, 119, 105, 99, 101] : List UInt8)) = false := word_no (by rw [hx0d, h0]; decide)
  have q4 : (x0.toList == ([97, 100, 100] : List UInt8)) = false := word_no (by rw [hx0d, h0]; decide)
  have q5 : (x0.toList == ([114, 101, 116, 105, 114, 101] : List UInt8)) = false := word_no (by rw [hx0d, h0]; decide)
  have q6 : (x0.toList == ([98, 97, 103] : List UInt8)) = false := word_no (by rw [hx0d, h0]; decide)
  have q7 : (x0.toList == ([100, 111, 110, 101] : List UInt8)) = false := word_no (by rw [hx0d, h0]; decide)
  have hne : ((n : Int) == 1) = false := by rw [beq_eq_false_iff_ne]; omega
  clear h0 hn hk
  have HT : Hid (Calls Tryz.prog 19 #[.int .i64 2] u2 _) := stold 2 (by omega) u2
  clear hx0d hn2
  go_wp2_with fail
  refine HT.out.mono ?_
  rintro e u3 ⟨rfl, hb3⟩
  go_wp2
  go_ret
  exact ⟨rfl, Moved.same HH.out.1 (bel_then HB2.out hb3)⟩
set_option maxRecDepth 100000 in
set_option maxHeartbeats 4000000 in
theorem ltell_twice_else (H : FlAt O V w p 1 Sc.msS s (Ft.qs Sc.msS s)) (hA : Alive 1 Sc.msS Sc.tS s) (d : ByteArray) (hd : d.size ≤ 2900) (w0 : List UInt8) (r : List (List UInt8)) (hp : Sh.pieces 32 d.data.toList = w0 :: r) (hall : ∀ x ∈ r, Sh.Num x) (h0 : w0 = Sc.twiceW) (hk : r.length ≠ 1) :
    Calls Tryz.prog 13 #[.pointer (some ⟨p, 0, none⟩), .string d] w fun e w' => e = .returned (.string ⟨(Sc.told 2).toArray⟩) ∧ Moved O V w w' p s := by
  have HH := hid (And.intro H hA)
  have HSZ := hid (piece_sizes d hd hp)
  obtain ⟨n, hn⟩ : ∃ n, r.length = n := ⟨_, rfl⟩
  have hn3 : n ≤ 2900 := by
    have h1 := Sh.pieces_len 32 d.data.toList
    rw [hp, List.length_cons, hn, list_size] at h1
    omega
  have HS : Hid (Calls Tryz.prog 11 #[.string d, .int .u8 32] w _) := rsplit d 32 (by omega) (n + 1) (by rw [hp, List.length_cons, hn]) w
  rw [hp] at HS
  clear H hA hp hd
  go_enter Tryz.func13, Tryz.ntmps13
  go_wp2_with fail
  refine HS.out.mono ?_
  rintro e u1 ⟨hb1, a1, c1, rfl, ho1⟩
  have hr1 := ho1.texts_high
  obtain ⟨D, C, hD, hrD⟩ := words_tail hr1
  have hrD2 : bagS.rep u1 everywhere [.slice D n C] (Sh.texts r) := Shape.any hrD
  have HB1 := hid hb1
  have HR1 := hid (Shape.any hr1)
  clear hb1 hr1 hrD HS ho1
  have HN : Hid (Calls _ _ _ _ _) := rnumbers_yes D n C (Sh.texts r) u1 hrD2 (by omega) HSZ.out ((Sh.num_texts r).2 hall)
  clear hrD2 hn3
  rw [Sh.nums_texts] at HN
  go_wp2_with fail
  refine HN.out.mono ?_
  rintro e u2 ⟨hb2, na, nc, rfl, hn2⟩
  have HB2 := hid (bel_then HB1.out hb2)
  have HR2 := hid (Shape.below HR1.out hb2)
  obtain ⟨bw, ow, rfl, hbw, hcw0⟩ := (Texts.of_rep HR2.out).at (j := 0) (by omega)
  have hcw : u2.cell? ⟨bw, ow, none⟩ = some (.string ⟨w0.toArray⟩) := hcw0
  obtain ⟨x0, hx0⟩ : ∃ x0 : ByteArray, (⟨w0.toArray⟩ : ByteArray) = x0 := ⟨_, rfl⟩
  have hx0d : x0.data.toList = w0 := by rw [← hx0]
  rw [hx0] at hcw
  clear hb2 HN hcw0 hx0 hD
  have q0 : (x0.toList == ([97, 115, 107] : List UInt8)) = false := word_no (by rw [hx0d, h0]; decide)
  have q1 : (x0.toList == ([100, 101, 108, 105, 118, 101, 114] : List UInt8)) = false := word_no (by rw [hx0d, h0]; decide)
  have q2 : (x0.toList == ([100, 114, 111, 112] : List UInt8)) = false := word_no (by rw [hx0d, h0]; decide)
  have q3 : (x0.toList == ([116, 119, 105, 99, 101] : List UInt8)) = true := word_yes (hx0d.trans h0)
  have q4 : (x0.toList == ([97, 100, 100] : List UInt8)) = false := word_no (by rw [hx0d, h0]; decide)
  have q5 : (x0.toList == ([114, 101, 116, 105, 114, 101] : List UInt8)) = false := word_no (by rw [hx0d, h0]; decide)
  have q6 : (x0.toList == ([98, 97, 103] : List UInt8)) = false := word_no (by rw [hx0d, h0]; decide)
  have q7 : (x0.toList == ([100, 111, 110, 101] : List UInt8)) = false := word_no (by rw [hx0d, h0]; decide)
  have hne : ((n : Int) == 1) = false := by rw [beq_eq_false_iff_ne]; omega
  clear h0 hn hk
  have HT : Hid (Calls Tryz.prog 19 #[.int .i64 2] u2 _) := stold 2 (by omega) u2
  clear hx0d hn2
  go_wp2_with fail
  refine HT.out.mono ?_
  rintro e u3 ⟨rfl, hb3⟩
  go_wp2
  go_ret
  exact ⟨rfl, Moved.same HH.out.1 (bel_then HB2.out hb3)⟩
end

end Go.Proofs.YtokfcjgfpchffaaGreatDoor
