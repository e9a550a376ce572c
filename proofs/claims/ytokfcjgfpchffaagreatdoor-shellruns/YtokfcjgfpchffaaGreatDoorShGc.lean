/- What a line tells, as the statements of layer 20 have it: add, retire, bag, done (written by wip/tools/mk-ltell.py). -/
import Derived.Test.YtokfcjgfpchffaaGreatDoorShF
namespace Go.Proofs.YtokfcjgfpchffaaGreatDoor
open Go.ChangeShapes Go.WideShapes Go.ChangeAt Go.RowKit



section
variable {O V : Nat → Prop} {w : World} {p : Nat} {s : Ft.St}
set_option maxRecDepth 100000 in
set_option maxHeartbeats 4000000 in
theorem ltell_add (H : FlAt O V w p 1 Sc.msS s (Ft.qs Sc.msS s)) (hA : Alive 1 Sc.msS Sc.tS s) (d : ByteArray) (hd : d.size ≤ 2900) (w0 : List UInt8) (x y : List UInt8) (hp : Sh.pieces 32 d.data.toList = w0 :: [x, y]) (hall : ∀ z ∈ ([x, y] : List (List UInt8)), Sh.Num z) (h0 : w0 = Sc.addW) :
    Calls Tryz.prog 13 #[.pointer (some ⟨p, 0, none⟩), .string d] w fun e w' => e = .returned (.string ⟨(Sc.act s w0 ([x, y].map Sh.val)).2.toArray⟩) ∧ Moved O V w w' p (Sc.act s w0 ([x, y].map Sh.val)).1 := by
  have ha : Sc.act s w0 (([x, y] : List (List UInt8)).map Sh.val) = (Ft.turned s (Sc.addS s.e s.h (Sh.val x : Nat) (Sh.val y : Nat)).1 (Sc.addS s.e s.h (Sh.val x : Nat) (Sh.val y : Nat)).2.1, Sc.told (Sc.addS s.e s.h (Sh.val x : Nat) (Sh.val y : Nat)).2.2) := by
    rw [h0]
    show Sc.act s Sc.addW [Sh.val x, Sh.val y] = _
    unfold Sc.act
    rw [if_neg (fun k => absurd k.1 (by decide)), if_neg (fun k => absurd k.1 (by decide)), if_neg (fun k => absurd k.1 (by decide)), if_neg (fun k => absurd k.1 (by decide)), if_pos ⟨rfl, rfl⟩]
    all_goals rfl
  rw [ha]
  clear ha
  have HD : Hid (∀ u, Below w.heap.size w u → Calls _ _ _ u _) := fun u hu => qadd (H.keep hu) hA (Sh.val x) (Sh.val y)
  have hk2 : (Sc.addS s.e s.h (Sh.val x : Nat) (Sh.val y : Nat)).2.2.toNat ≤ 100 := by
    unfold Sc.addS
    repeat' split
    all_goals simp
  have hk3 : Sc.told (Sc.addS s.e s.h (Sh.val x : Nat) (Sh.val y : Nat)).2.2 = Sc.told (((Sc.addS s.e s.h (Sh.val x : Nat) (Sh.val y : Nat)).2.2.toNat : Nat) : Int) := by rw [Sc.addS_nat]
  rw [hk3]
  clear hk3
  obtain ⟨q, hq⟩ : ∃ q, (Sc.addS s.e s.h (Sh.val x : Nat) (Sh.val y : Nat)).2.2.toNat = q := ⟨_, rfl⟩
  rw [hq] at HD hk2 ⊢
  have HT : Hid (∀ u, Calls _ _ _ u _) := fun u => stold q hk2 u
  clear hk2 hq
  obtain ⟨r, hr⟩ : ∃ r : List (List UInt8), r = [x, y] := ⟨_, rfl⟩
  rw [← hr] at hp hall
  have HH := hid (And.intro H hA)
  have HSZ := hid (piece_sizes d hd hp)
  obtain ⟨n, hn⟩ : ∃ n, r.length = n := ⟨_, rfl⟩
  have hn3 : n ≤ 2900 := by
    have h1 := Sh.pieces_len 32 d.data.toList
    rw [hp, List.length_cons, hn, list_size] at h1
    omega
  have HS : Hid (Calls Tryz.prog 11 #[.string d, .int .u8 32] w _) := rsplit d 32 (by omega) (n + 1) (by rw [hp, List.length_cons, hn]) w
  rw [hp] at HS
  clear H hA hp hd
  go_enter Tryz.func13, Tryz.ntmps13
  go_wp2_with fail
  refine HS.out.mono ?_
  rintro e u1 ⟨hb1, a1, c1, rfl, ho1⟩
  have hr1 := ho1.texts_high
  obtain ⟨D, C, hD, hrD⟩ := words_tail hr1
  have hrD2 : bagS.rep u1 everywhere [.slice D n C] (Sh.texts r) := Shape.any hrD
  have HB1 := hid hb1
  have HR1 := hid (Shape.any hr1)
  clear hb1 hr1 hrD HS ho1
  have HN : Hid (Calls _ _ _ _ _) := rnumbers_yes D n C (Sh.texts r) u1 hrD2 (by omega) HSZ.out ((Sh.num_texts r).2 hall)
  clear hrD2 hn3
  rw [Sh.nums_texts] at HN
  go_wp2_with fail
  refine HN.out.mono ?_
  rintro e u2 ⟨hb2, na, nc, rfl, hn2⟩
  have HB2 := hid (bel_then HB1.out hb2)
  have HR2 := hid (Shape.below HR1.out hb2)
  obtain ⟨bw, ow, rfl, hbw, hcw0⟩ := (Texts.of_rep HR2.out).at (j := 0) (by omega)
  have hcw : u2.cell? ⟨bw, ow, none⟩ = some (.string ⟨w0.toArray⟩) := hcw0
  obtain ⟨x0, hx0⟩ : ∃ x0 : ByteArray, (⟨w0.toArray⟩ : ByteArray) = x0 := ⟨_, rfl⟩
  have hx0d : x0.data.toList = w0 := by rw [← hx0]
  rw [hx0] at hcw
  clear hb2 HN hcw0 hx0 hD
  subst hr
  have hn9 : n = 2 := hn.symm
  subst hn9
  have q0 : (x0.toList == ([97, 115, 107] : List UInt8)) = false := word_no (by rw [hx0d, h0]; decide)
  have q1 : (x0.toList == ([100, 101, 108, 105, 118, 101, 114] : List UInt8)) = false := word_no (by rw [hx0d, h0]; decide)
  have q2 : (x0.toList == ([100, 114, 111, 112] : List UInt8)) = false := word_no (by rw [hx0d, h0]; decide)
  have q3 : (x0.toList == ([116, 119, 105, 99, 101] : List UInt8)) = false := word_no (by rw [hx0d, h0]; decide)
  have q4 : (x0.toList == ([97, 100, 100] : List UInt8)) = true := word_yes (hx0d.trans h0)
  have q5 : (x0.toList == ([114, 101, 116, 105, 114, 101] : List UInt8)) = false := word_no (by rw [hx0d, h0]; decide)
  have q6 : (x0.toList == ([98, 97, 103] : List UInt8)) = false := word_no (by rw [hx0d, h0]; decide)
  have q7 : (x0.toList == ([100, 111, 110, 101] : List UInt8)) = false := word_no (by rw [hx0d, h0]; decide)
  clear h0 hn hx0d
  have hn3 : rowS.rep u2 everywhere [.slice na 2 nc] [((Sh.val x : Nat) : Int), ((Sh.val y : Nat) : Int)] := Shape.any hn2.high
  obtain ⟨bn, on, rfl, hbn, hcn0⟩ := (Row.of_rep hn3).at (j := 0) (by omega)
  have hcn : u2.cell? ⟨bn, on, none⟩ = some (.int .i64 (Sh.val x : Nat)) := hcn0
  obtain ⟨bn2, on2, hbe, hbn2, hcn20⟩ := (Row.of_rep hn3).at (j := 1) (by omega)
  simp only [Option.some.injEq, Addr.mk.injEq] at hbe
  obtain ⟨rfl, rfl, _⟩ := hbe
  have hcn2 : u2.cell? ⟨bn, on + 1, none⟩ = some (.int .i64 (Sh.val y : Nat)) := hcn20
  clear hn2 hn3 hcn0 hcn20
  go_wp2
  go_region_with (first
    | (go_at_call 19; refine (HT.out _).mono ?_; rintro e u4 ⟨rfl, hb4⟩)
    | (go_at_call 24; refine (HD.out _ (HB2.out.trans ((Below.refl _ _).drew.mono HB2.out.size))).mono ?_; rintro e u3 ⟨rfl, hm3⟩))
  all_goals
    go_wp2
    go_ret
    exact ⟨rfl, Moved.bel (Moved.ahead (bel_then HB2.out (Below.refl _ _).drew) hm3) hb4⟩
set_option maxRecDepth 100000 in
set_option maxHeartbeats 4000000 in
theorem ltell_retire (H : FlAt O V w p 1 Sc.msS s (Ft.qs Sc.msS s)) (hA : Alive 1 Sc.msS Sc.tS s) (d : ByteArray) (hd : d.size ≤ 2900) (w0 : List UInt8) (x y : List UInt8) (hp : Sh.pieces 32 d.data.toList = w0 :: [x, y]) (hall : ∀ z ∈ ([x, y] : List (List UInt8)), Sh.Num z) (h0 : w0 = Sc.retireW) :
    Calls Tryz.prog 13 #[.pointer (some ⟨p, 0, none⟩), .string d] w fun e w' => e = .returned (.string ⟨(Sc.act s w0 ([x, y].map Sh.val)).2.toArray⟩) ∧ Moved O V w w' p (Sc.act s w0 ([x, y].map Sh.val)).1 := by
  have ha : Sc.act s w0 (([x, y] : List (List UInt8)).map Sh.val) = (Ft.turned s (Sc.retS s.e s.h (Sh.val x : Nat) (Sh.val y : Nat)).1 (Sc.retS s.e s.h (Sh.val x : Nat) (Sh.val y : Nat)).2.1, Sc.told (Sc.retS s.e s.h (Sh.val x : Nat) (Sh.val y : Nat)).2.2) := by
    rw [h0]
    show Sc.act s Sc.retireW [Sh.val x, Sh.val y] = _
    unfold Sc.act
    rw [if_neg (fun k => absurd k.1 (by decide)), if_neg (fun k => absurd k.1 (by decide)), if_neg (fun k => absurd k.1 (by decide)), if_neg (fun k => absurd k.1 (by decide)), if_neg (fun k => absurd k.1 (by decide)), if_pos ⟨rfl, rfl⟩]
    all_goals rfl
  rw [ha]
  clear ha
  have HD : Hid (∀ u, Below w.heap.size w u → Calls _ _ _ u _) := fun u hu => qretire (H.keep hu) hA (Sh.val x) (Sh.val y)
  have hk2 : (Sc.retS s.e s.h (Sh.val x : Nat) (Sh.val y : Nat)).2.2.toNat ≤ 100 := by
    unfold Sc.retS
    repeat' split
    all_goals simp
  have hk3 : Sc.told (Sc.retS s.e s.h (Sh.val x : Nat) (Sh.val y : Nat)).2.2 = Sc.told (((Sc.retS s.e s.h (Sh.val x : Nat) (Sh.val y : Nat)).2.2.toNat : Nat) : Int) := by rw [Sc.retS_nat]
  rw [hk3]
  clear hk3
  obtain ⟨q, hq⟩ : ∃ q, (Sc.retS s.e s.h (Sh.val x : Nat) (Sh.val y : Nat)).2.2.toNat = q := ⟨_, rfl⟩
  rw [hq] at HD hk2 ⊢
  have HT : Hid (∀ u, Calls _ _ _ u _) := fun u => stold q hk2 u
  clear hk2 hq
  obtain ⟨r, hr⟩ : ∃ r : List (List UInt8), r = [x, y] := ⟨_, rfl⟩
  rw [← hr] at hp hall
  have HH := hid (And.intro H hA)
  have HSZ := hid (piece_sizes d hd hp)
  obtain ⟨n, hn⟩ : ∃ n, r.length = n := ⟨_, rfl⟩
  have hn3 : n ≤ 2900 := by
    have h1 := Sh.pieces_len 32 d.data.toList
    rw [hp, List.length_cons, hn, list_size] at h1
    omega
  have HS : Hid (Calls Tryz.prog 11 #[.string d, .int .u8 32] w _) := rsplit d 32 (by omega) (n + 1) (by rw [hp, List.length_cons, hn]) w
  rw [hp] at HS
  clear H hA hp hd
  go_enter Tryz.func13, Tryz.ntmps13
  go_wp2_with fail
  refine HS.out.mono ?_
  rintro e u1 ⟨hb1, a1, c1, rfl, ho1⟩
  have hr1 := ho1.texts_high
  obtain ⟨D, C, hD, hrD⟩ := words_tail hr1
  have hrD2 : bagS.rep u1 everywhere [.slice D n C] (Sh.texts r) := Shape.any hrD
  have HB1 := hid hb1
  have HR1 := hid (Shape.any hr1)
  clear hb1 hr1 hrD HS ho1
  have HN : Hid (Calls _ _ _ _ _) := rnumbers_yes D n C (Sh.texts r) u1 hrD2 (by omega) HSZ.out ((Sh.num_texts r).2 hall)
  clear hrD2 hn3
  rw [Sh.nums_texts] at HN
  go_wp2_with fail
  refine HN.out.mono ?_
  rintro e u2 ⟨hb2, na, nc, rfl, hn2⟩
  have HB2 := hid (bel_then HB1.out hb2)
  have HR2 := hid (Shape.below HR1.out hb2)
  obtain ⟨bw, ow, rfl, hbw, hcw0⟩ := (Texts.of_rep HR2.out).at (j := 0) (by omega)
  have hcw : u2.cell? ⟨bw, ow, none⟩ = some (.string ⟨w0.toArray⟩) := hcw0
  obtain ⟨x0, hx0⟩ : ∃ x0 : ByteArray, (⟨w0.toArray⟩ : ByteArray) = x0 := ⟨_, rfl⟩
  have hx0d : x0.data.toList = w0 := by rw [← hx0]
  rw [hx0] at hcw
  clear hb2 HN hcw0 hx0 hD
  subst hr
  have hn9 : n = 2 := hn.symm
  subst hn9
  have q0 : (x0.toList == ([97, 115, 107] : List UInt8)) = false := word_no (by rw [hx0d, h0]; decide)
  have q1 : (x0.toList == ([100, 101, 108, 105, 118, 101, 114] : List UInt8)) = false := word_no (by rw [hx0d, h0]; decide)
  have q2 : (x0.toList == ([100, 114, 111, 112] : List UInt8)) = false := word_no (by rw [hx0d, h0]; decide)
  have q3 : (x0.toList == ([116, 119, 105, 99, 101] : List UInt8)) = false := word_no (by rw [hx0d, h0]; decide)
  have q4 : (x0.toList == ([97, 100, 100] : List UInt8)) = false := word_no (by rw [hx0d, h0]; decide)
  have q5 : (x0.toList == ([114, 101, 116, 105, 114, 101] : List UInt8)) = true := word_yes (hx0d.trans h0)
  have q6 : (x0.toList == ([98, 97, 103] : List UInt8)) = false := word_no (by rw [hx0d, h0]; decide)
  have q7 : (x0.toList == ([100, 111, 110, 101] : List UInt8)) = false := word_no (by rw [hx0d, h0]; decide)
  clear h0 hn hx0d
  have hn3 : rowS.rep u2 everywhere [.slice na 2 nc] [((Sh.val x : Nat) : Int), ((Sh.val y : Nat) : Int)] := Shape.any hn2.high
  obtain ⟨bn, on, rfl, hbn, hcn0⟩ := (Row.of_rep hn3).at (j := 0) (by omega)
  have hcn : u2.cell? ⟨bn, on, none⟩ = some (.int .i64 (Sh.val x : Nat)) := hcn0
  obtain ⟨bn2, on2, hbe, hbn2, hcn20⟩ := (Row.of_rep hn3).at (j := 1) (by omega)
  simp only [Option.some.injEq, Addr.mk.injEq] at hbe
  obtain ⟨rfl, rfl, _⟩ := hbe
  have hcn2 : u2.cell? ⟨bn, on + 1, none⟩ = some (.int .i64 (Sh.val y : Nat)) := hcn20
  clear hn2 hn3 hcn0 hcn20
  go_wp2
  go_region_with (first
    | (go_at_call 19; refine (HT.out _).mono ?_; rintro e u4 ⟨rfl, hb4⟩)
    | (go_at_call 25; refine (HD.out _ (HB2.out.trans ((Below.refl _ _).drew.mono HB2.out.size))).mono ?_; rintro e u3 ⟨rfl, hm3⟩))
  all_goals
    go_wp2
    go_ret
    exact ⟨rfl, Moved.bel (Moved.ahead (bel_then HB2.out (Below.refl _ _).drew) hm3) hb4⟩
set_option maxRecDepth 100000 in
set_option maxHeartbeats 4000000 in
theorem ltell_bag (H : FlAt O V w p 1 Sc.msS s (Ft.qs Sc.msS s)) (hA : Alive 1 Sc.msS Sc.tS s) (d : ByteArray) (hd : d.size ≤ 2900) (w0 : List UInt8) (hp : Sh.pieces 32 d.data.toList = w0 :: []) (hall : ∀ z ∈ ([] : List (List UInt8)), Sh.Num z) (h0 : w0 = Sc.bagW) :
    Calls Tryz.prog 13 #[.pointer (some ⟨p, 0, none⟩), .string d] w fun e w' => e = .returned (.string ⟨(Sc.act s w0 ([].map Sh.val)).2.toArray⟩) ∧ Moved O V w w' p (Sc.act s w0 ([].map Sh.val)).1 := by
  have ha : Sc.act s w0 (([] : List (List UInt8)).map Sh.val) = (s, Sc.okW ++ 32 :: (Sh.dig s.bag.length ++ 32 :: Sh.dig (Ft.worked s))) := by
    rw [h0]
    show Sc.act s Sc.bagW [] = _
    unfold Sc.act
    rw [if_neg (fun k => absurd k.1 (by decide)), if_neg (fun k => absurd k.1 (by decide)), if_neg (fun k => absurd k.1 (by decide)), if_neg (fun k => absurd k.1 (by decide)), if_neg (fun k => absurd k.1 (by decide)), if_neg (fun k => absurd k.1 (by decide)), if_pos ⟨rfl, rfl⟩]
    all_goals rfl
  rw [ha]
  clear ha
  obtain ⟨k, hk⟩ : ∃ k, s.bag.length = k := ⟨_, rfl⟩
  obtain ⟨m, hm⟩ : ∃ m, Ft.worked s = m := ⟨_, rfl⟩
  have hk2 : k ≤ 200 := by rw [← hk]; exact hA.i.few
  have hm2 : m ≤ 100000 := by rw [← hm]; exact hA.worked
  have HD : Hid (∀ u, Below w.heap.size w u → Calls _ _ _ u _) := fun u hu => fbag (H.keep hu) hA.i.few k hk
  have HWK : Hid (∀ u, Below w.heap.size w u → Calls Tryz.prog 27 #[.pointer (some ⟨p, 0, none⟩)] u fun e w' => e = .returned (.int .i64 (m : Int)) ∧ Below u.heap.size u w') := fun u hu => by
    have h9 := fworked (H.keep hu) hA.i.len hA.worked
    rw [hm] at h9
    exact h9
  rw [hk, hm]
  clear hk hm
  have HG1 : Hid (∀ u, Calls _ _ _ u _) := fun u => rdigits k (by omega) u
  have HG2 : Hid (∀ u, Calls _ _ _ u _) := fun u => rdigits m (by omega) u
  have l1 := Sh.dig_short 11 k (by omega)
  have l2 := Sh.dig_short 11 m (by omega)
  obtain ⟨D1, hD1⟩ : ∃ D1 : ByteArray, (⟨(Sh.dig k).toArray⟩ : ByteArray) = D1 := ⟨_, rfl⟩
  obtain ⟨D2, hD2⟩ : ∃ D2 : ByteArray, (⟨(Sh.dig m).toArray⟩ : ByteArray) = D2 := ⟨_, rfl⟩
  obtain ⟨R1, hR1⟩ : ∃ R1 : ByteArray, (⟨#[111, 107, 32]⟩ : ByteArray) ++ D1 = R1 := ⟨_, rfl⟩
  obtain ⟨R2, hR2⟩ : ∃ R2 : ByteArray, R1 ++ (⟨#[32]⟩ : ByteArray) = R2 := ⟨_, rfl⟩
  obtain ⟨R3, hR3⟩ : ∃ R3 : ByteArray, R2 ++ D2 = R3 := ⟨_, rfl⟩
  have e1 : R1 = ⟨([111, 107, 32] ++ Sh.dig k).toArray⟩ := by rw [← hR1, ← hD1]; exact bcat [111, 107, 32] _
  have e2 : R2 = ⟨([111, 107, 32] ++ Sh.dig k ++ [32]).toArray⟩ := by rw [← hR2, e1]; exact bcat _ [32]
  have e3 : R3 = ⟨([111, 107, 32] ++ Sh.dig k ++ [32] ++ Sh.dig m).toArray⟩ := by rw [← hR3, e2, ← hD2]; exact bcat _ _
  have HR3 : Hid (R3 = ⟨(Sc.okW ++ 32 :: (Sh.dig k ++ 32 :: Sh.dig m)).toArray⟩) := by
    show _ = _
    rw [e3]
    have e9 : [111, 107, 32] ++ Sh.dig k ++ [32] ++ Sh.dig m = Sc.okW ++ 32 :: (Sh.dig k ++ 32 :: Sh.dig m) := by
      show _ = [111, 107] ++ _
      simp
    rw [e9]
  have z1 : D1.size ≤ 12 := by rw [← hD1, bsize]; exact l1
  have z2 : D2.size ≤ 12 := by rw [← hD2, bsize]; exact l2
  have z3 : R1.size ≤ 15 := by rw [e1, bsize, List.length_append]; show 3 + _ ≤ _; omega
  have z4 : R2.size ≤ 16 := by rw [e2, bsize, List.length_append, List.length_append]; show 3 + _ + 1 ≤ _; omega
  have s1 : ¬ (9223372036854775807 < 3 + D1.size) := by omega
  have s2 : ¬ (9223372036854775807 < R1.size + 1) := by omega
  have s3 : ¬ (9223372036854775807 < R2.size + D2.size) := by omega
  have mk : max (k : Int) 0 = (k : Int) := by omega
  have mm : max (m : Int) 0 = (m : Int) := by omega
  rw [hD1] at HG1
  rw [hD2] at HG2
  clear hD1 hD2 e1 e2 e3 z1 z2 z3 z4 l1 l2 hk2 hm2
  obtain ⟨r, hr⟩ : ∃ r : List (List UInt8), r = [] := ⟨_, rfl⟩
  rw [← hr] at hp hall
  have HH := hid (And.intro H hA)
  have HSZ := hid (piece_sizes d hd hp)
  obtain ⟨n, hn⟩ : ∃ n, r.length = n := ⟨_, rfl⟩
  have hn3 : n ≤ 2900 := by
    have h1 := Sh.pieces_len 32 d.data.toList
    rw [hp, List.length_cons, hn, list_size] at h1
    omega
  have HS : Hid (Calls Tryz.prog 11 #[.string d, .int .u8 32] w _) := rsplit d 32 (by omega) (n + 1) (by rw [hp, List.length_cons, hn]) w
  rw [hp] at HS
  clear H hA hp hd
  go_enter Tryz.func13, Tryz.ntmps13
  go_wp2_with fail
  refine HS.out.mono ?_
  rintro e u1 ⟨hb1, a1, c1, rfl, ho1⟩
  have hr1 := ho1.texts_high
  obtain ⟨D, C, hD, hrD⟩ := words_tail hr1
  have hrD2 : bagS.rep u1 everywhere [.slice D n C] (Sh.texts r) := Shape.any hrD
  have HB1 := hid hb1
  have HR1 := hid (Shape.any hr1)
  clear hb1 hr1 hrD HS ho1
  have HN : Hid (Calls _ _ _ _ _) := rnumbers_yes D n C (Sh.texts r) u1 hrD2 (by omega) HSZ.out ((Sh.num_texts r).2 hall)
  clear hrD2 hn3
  rw [Sh.nums_texts] at HN
  go_wp2_with fail
  refine HN.out.mono ?_
  rintro e u2 ⟨hb2, na, nc, rfl, hn2⟩
  have HB2 := hid (bel_then HB1.out hb2)
  have HR2 := hid (Shape.below HR1.out hb2)
  obtain ⟨bw, ow, rfl, hbw, hcw0⟩ := (Texts.of_rep HR2.out).at (j := 0) (by omega)
  have hcw : u2.cell? ⟨bw, ow, none⟩ = some (.string ⟨w0.toArray⟩) := hcw0
  obtain ⟨x0, hx0⟩ : ∃ x0 : ByteArray, (⟨w0.toArray⟩ : ByteArray) = x0 := ⟨_, rfl⟩
  have hx0d : x0.data.toList = w0 := by rw [← hx0]
  rw [hx0] at hcw
  clear hb2 HN hcw0 hx0 hD
  subst hr
  have hn9 : n = 0 := hn.symm
  subst hn9
  have q0 : (x0.toList == ([97, 115, 107] : List UInt8)) = false := word_no (by rw [hx0d, h0]; decide)
  have q1 : (x0.toList == ([100, 101, 108, 105, 118, 101, 114] : List UInt8)) = false := word_no (by rw [hx0d, h0]; decide)
  have q2 : (x0.toList == ([100, 114, 111, 112] : List UInt8)) = false := word_no (by rw [hx0d, h0]; decide)
  have q3 : (x0.toList == ([116, 119, 105, 99, 101] : List UInt8)) = false := word_no (by rw [hx0d, h0]; decide)
  have q4 : (x0.toList == ([97, 100, 100] : List UInt8)) = false := word_no (by rw [hx0d, h0]; decide)
  have q5 : (x0.toList == ([114, 101, 116, 105, 114, 101] : List UInt8)) = false := word_no (by rw [hx0d, h0]; decide)
  have q6 : (x0.toList == ([98, 97, 103] : List UInt8)) = true := word_yes (hx0d.trans h0)
  have q7 : (x0.toList == ([100, 111, 110, 101] : List UInt8)) = false := word_no (by rw [hx0d, h0]; decide)
  clear h0 hn hx0d
  clear hn2
  go_wp2_with fail
  refine (HD.out u2 HB2.out).mono ?_
  rintro e u3 ⟨hb3, ba, bc, rfl, _⟩
  have HB3 := hid (bel_then HB2.out hb3)
  clear hb3
  go_wp2_with fail
  refine (HG1.out u3).mono ?_
  rintro e u4 ⟨rfl, hb4⟩
  have HB4 := hid (bel_then HB3.out hb4)
  clear hb4
  go_wp2_with fail
  refine (HWK.out u4 HB4.out).mono ?_
  rintro e u5 ⟨rfl, hb5⟩
  have HB5 := hid (bel_then HB4.out hb5)
  clear hb5
  go_wp2_with fail
  refine (HG2.out u5).mono ?_
  rintro e u6 ⟨rfl, hb6⟩
  have HB6 := hid (bel_then HB5.out hb6)
  clear hb6
  go_wp2
  go_ret
  exact ⟨by rw [← HR3.out]; rfl, Moved.same HH.out.1 HB6.out⟩
set_option maxRecDepth 100000 in
set_option maxHeartbeats 4000000 in
theorem ltell_done (H : FlAt O V w p 1 Sc.msS s (Ft.qs Sc.msS s)) (hA : Alive 1 Sc.msS Sc.tS s) (d : ByteArray) (hd : d.size ≤ 2900) (w0 : List UInt8) (hp : Sh.pieces 32 d.data.toList = w0 :: []) (hall : ∀ z ∈ ([] : List (List UInt8)), Sh.Num z) (h0 : w0 = Sc.doneW) :
    Calls Tryz.prog 13 #[.pointer (some ⟨p, 0, none⟩), .string d] w fun e w' => e = .returned (.string ⟨(Sc.act s w0 ([].map Sh.val)).2.toArray⟩) ∧ Moved O V w w' p (Sc.act s w0 ([].map Sh.val)).1 := by
  have ha : Sc.act s w0 (([] : List (List UInt8)).map Sh.val) = (s, Sc.okW ++ (if s.lay = Sc.msS.length then Sc.doneS s.toks else [])) := by
    rw [h0]
    show Sc.act s Sc.doneW [] = _
    unfold Sc.act
    rw [if_neg (fun k => absurd k.1 (by decide)), if_neg (fun k => absurd k.1 (by decide)), if_neg (fun k => absurd k.1 (by decide)), if_neg (fun k => absurd k.1 (by decide)), if_neg (fun k => absurd k.1 (by decide)), if_neg (fun k => absurd k.1 (by decide)), if_neg (fun k => absurd k.1 (by decide)), if_pos ⟨rfl, rfl⟩]
    all_goals rfl
  rw [ha]
  clear ha
  by_cases hl : s.lay = Sc.msS.length
  · rw [if_pos hl]
    have ht := done_toks hA hl
    have HD : Hid (∀ u, Below w.heap.size w u → Calls _ _ _ u _) := fun u hu => fdone_yes (H.keep hu) hl hA.short 3 (by rw [ht]; rfl)
    rw [ht] at HD
    have hdt : Sc.doneS s.toks = Sh.behind [200, 100, 7] := by rw [ht]; rfl
    rw [hdt]
    clear hdt ht hl
    obtain ⟨r, hr⟩ : ∃ r : List (List UInt8), r = [] := ⟨_, rfl⟩
    rw [← hr] at hp hall
    have HH := hid (And.intro H hA)
    have HSZ := hid (piece_sizes d hd hp)
    obtain ⟨n, hn⟩ : ∃ n, r.length = n := ⟨_, rfl⟩
    have hn3 : n ≤ 2900 := by
      have h1 := Sh.pieces_len 32 d.data.toList
      rw [hp, List.length_cons, hn, list_size] at h1
      omega
    have HS : Hid (Calls Tryz.prog 11 #[.string d, .int .u8 32] w _) := rsplit d 32 (by omega) (n + 1) (by rw [hp, List.length_cons, hn]) w
    rw [hp] at HS
    clear H hA hp hd
    go_enter Tryz.func13, Tryz.ntmps13
    go_wp2_with fail
    refine HS.out.mono ?_
    rintro e u1 ⟨hb1, a1, c1, rfl, ho1⟩
    have hr1 := ho1.texts_high
    obtain ⟨D, C, hD, hrD⟩ := words_tail hr1
    have hrD2 : bagS.rep u1 everywhere [.slice D n C] (Sh.texts r) := Shape.any hrD
    have HB1 := hid hb1
    have HR1 := hid (Shape.any hr1)
    clear hb1 hr1 hrD HS ho1
    have HN : Hid (Calls _ _ _ _ _) := rnumbers_yes D n C (Sh.texts r) u1 hrD2 (by omega) HSZ.out ((Sh.num_texts r).2 hall)
    clear hrD2 hn3
    rw [Sh.nums_texts] at HN
    go_wp2_with fail
    refine HN.out.mono ?_
    rintro e u2 ⟨hb2, na, nc, rfl, hn2⟩
    have HB2 := hid (bel_then HB1.out hb2)
    have HR2 := hid (Shape.below HR1.out hb2)
    obtain ⟨bw, ow, rfl, hbw, hcw0⟩ := (Texts.of_rep HR2.out).at (j := 0) (by omega)
    have hcw : u2.cell? ⟨bw, ow, none⟩ = some (.string ⟨w0.toArray⟩) := hcw0
    obtain ⟨x0, hx0⟩ : ∃ x0 : ByteArray, (⟨w0.toArray⟩ : ByteArray) = x0 := ⟨_, rfl⟩
    have hx0d : x0.data.toList = w0 := by rw [← hx0]
    rw [hx0] at hcw
    clear hb2 HN hcw0 hx0 hD
    subst hr
    have hn9 : n = 0 := hn.symm
    subst hn9
    have q0 : (x0.toList == ([97, 115, 107] : List UInt8)) = false := word_no (by rw [hx0d, h0]; decide)
    have q1 : (x0.toList == ([100, 101, 108, 105, 118, 101, 114] : List UInt8)) = false := word_no (by rw [hx0d, h0]; decide)
    have q2 : (x0.toList == ([100, 114, 111, 112] : List UInt8)) = false := word_no (by rw [hx0d, h0]; decide)
    have q3 : (x0.toList == ([116, 119, 105, 99, 101] : List UInt8)) = false := word_no (by rw [hx0d, h0]; decide)
    have q4 : (x0.toList == ([97, 100, 100] : List UInt8)) = false := word_no (by rw [hx0d, h0]; decide)
    have q5 : (x0.toList == ([114, 101, 116, 105, 114, 101] : List UInt8)) = false := word_no (by rw [hx0d, h0]; decide)
    have q6 : (x0.toList == ([98, 97, 103] : List UInt8)) = false := word_no (by rw [hx0d, h0]; decide)
    have q7 : (x0.toList == ([100, 111, 110, 101] : List UInt8)) = true := word_yes (hx0d.trans h0)
    clear h0 hn hx0d
    clear hn2
    go_wp2_with fail
    refine (HD.out u2 HB2.out).mono ?_
    rintro e u3 ⟨hb3, ta, tc, rfl, ht3⟩
    have HB3 := hid (bel_then HB2.out hb3)
    have HT3 := hid ht3
    clear hb3 ht3 HD
    have HROWS : Hid (∀ k, k < 3 → ∃ x : Int, ([[200], [100], [7]] : List (List Int)).getD k [] = [x] ∧ 0 ≤ x ∧ x ≤ 1000 ∧ Sh.behind ([200, 100, 7].take (k + 1)) = Sh.behind ([200, 100, 7].take k) ++ 32 :: Sh.dig x.toNat) := by
      intro k hk
      match k, hk with
      | 0, _ => exact ⟨200, rfl, by omega, by omega, Sh.behind_step [200, 100, 7] (k := 0) (by decide)⟩
      | 1, _ => exact ⟨100, rfl, by omega, by omega, Sh.behind_step [200, 100, 7] (k := 1) (by decide)⟩
      | 2, _ => exact ⟨7, rfl, by omega, by omega, Sh.behind_step [200, 100, 7] (k := 2) (by decide)⟩
    have HBL : Hid (∀ k, k ≤ 3 → (Sh.behind ([200, 100, 7].take k)).length ≤ 39) := fun k hk => by
      have h9 := Sh.behind_len (([200, 100, 7] : List Int).take k) (fun x hx => by
        have h8 := List.mem_of_mem_take hx
        simp only [List.mem_cons, List.not_mem_nil, or_false] at h8
        rcases h8 with rfl | rfl | rfl <;> omega)
      rw [List.length_take] at h9
      show _ ≤ _
      simp only [List.length_cons, List.length_nil] at h9
      omega
    go_wp2
    go_loopw [8, 163] (fun v i wr => ∃ (k : Nat) (T : ByteArray), k ≤ 3 ∧ v = .string T ∧ i = .int .i64 k ∧ Hid (T = ⟨(Sc.okW ++ Sh.behind ([200, 100, 7].take k)).toArray⟩) ∧ Below u3.heap.size u3 wr) (fun _ i _ => 3 - (intOf i).toNat)
    case atStart => exact ⟨0, _, by omega, rfl, rfl, (by show _ = _; rfl), Below.refl _ _⟩
    case round =>
      obtain ⟨k, T, hk, rfl, rfl, HT, hbel⟩ := hrel
      by_cases hlt : k < 3
      · obtain ⟨b1, o1, A, Ca, rfl, hb1, hc1, hrr⟩ := mat_at (Shape.below HT3.out hbel) hlt
        obtain ⟨x, hx, hx0, hx9, hstep⟩ := HROWS.out k hlt
        rw [hx] at hc1 hrr
        obtain ⟨m, rfl⟩ : ∃ m : Nat, x = (m : Int) := ⟨x.toNat, by omega⟩
        rw [show ((m : Int)).toNat = m by omega] at hstep
        obtain ⟨b2, o2, rfl, hb2, hc2⟩ := (Row.of_rep hrr).at (j := 0) (by simp)
        have d1 : wr.cell? ⟨b1, o1 + k, none⟩ = some (.slice (some ⟨b2, o2, none⟩) 1 Ca) := hc1
        have d2 : wr.cell? ⟨b2, o2, none⟩ = some (.int .i64 (m : Int)) := hc2
        have hli : (k : Int) < 3 := by omega
        have hz0 : (0 : Int) ≤ (k : Int) := by omega
        have HG : Hid (Calls _ _ _ _ _) := rdigits m (by omega) wr
        obtain ⟨D1, hD1⟩ : ∃ D1 : ByteArray, (⟨(Sh.dig m).toArray⟩ : ByteArray) = D1 := ⟨_, rfl⟩
        obtain ⟨S1, hS1⟩ : ∃ S1 : ByteArray, (⟨#[32]⟩ : ByteArray) ++ D1 = S1 := ⟨_, rfl⟩
        obtain ⟨R1, hR1⟩ : ∃ R1 : ByteArray, T ++ S1 = R1 := ⟨_, rfl⟩
        have hS2 : S1 = ⟨(32 :: Sh.dig m).toArray⟩ := by rw [← hS1, ← hD1]; exact bcat [32] (Sh.dig m)
        have HR : Hid (R1 = ⟨(Sc.okW ++ Sh.behind ([200, 100, 7].take (k + 1))).toArray⟩) := by
          show _ = _
          rw [← hR1, HT.out, hS2, hstep, ← List.append_assoc]
          exact bcat _ _
        have l1 := Sh.dig_short 11 m (by omega)
        have z1 : D1.size ≤ 12 := by rw [← hD1, bsize]; exact l1
        have z2 : S1.size ≤ 13 := by rw [hS2, bsize, List.length_cons]; omega
        have z3 : T.size ≤ 41 := by
          have h9 := HBL.out k (by omega)
          rw [HT.out, bsize, List.length_append]
          show 2 + _ ≤ _
          omega
        have s1 : ¬ (9223372036854775807 < 1 + D1.size) := by omega
        have s2 : ¬ (9223372036854775807 < T.size + S1.size) := by omega
        have mm : max (m : Int) 0 = (m : Int) := by omega
        rw [hD1] at HG
        have HBW := hid hbel
        clear hD1 hS2 hstep hx l1 z1 z2 z3 HT hbel hrr hc1 hc2
        go_wp2
        go_loopw [8, 169] (fun v i wq => ∃ (j : Nat) (T2 : ByteArray), j ≤ 1 ∧ v = .string T2 ∧ i = .int .i64 j ∧ Hid ((j = 0 → T2 = T ∧ wq = wr) ∧ (j = 1 → T2 = R1)) ∧ Below wr.heap.size wr wq) (fun _ i _ => 1 - (intOf i).toNat)
        case atStart => exact ⟨0, T, by omega, rfl, rfl, ⟨fun _ => ⟨rfl, rfl⟩, fun h => by omega⟩, Below.refl _ _⟩
        case round =>
          obtain ⟨j, T2, hj, rfl, rfl, HT2, hbel2⟩ := hrel
          by_cases hj0 : j = 0
          · subst hj0
            obtain ⟨e1, e2⟩ := HT2.out.1 rfl
            subst e1
            replace e2 := e2.symm
            subst e2
            clear HT2 hbel2
            go_wp2_with fail
            refine HG.out.mono ?_
            rintro e u5 ⟨rfl, hb5⟩
            have HB5 := hid hb5
            clear hb5
            go_wp2
            go_roundw
            case rel => exact ⟨1, R1, by omega, rfl, rfl, ⟨fun h => by omega, fun _ => rfl⟩, HB5.out⟩
            case measure => simp [intOf]
          · have hj1 : j = 1 := by omega
            subst hj1
            have e1 := HT2.out.2 rfl
            subst e1
            have HBQ := hid (HBW.out.trans (hbel2.mono HBW.out.size))
            clear HT2 hbel2 d1 d2 hj0
            go_wp2
            go_roundw
            case rel => exact ⟨k + 1, T2, by omega, rfl, by go_num, HR, HBQ.out⟩
            case measure => simp [intOf]; omega
      · have hkn : k = 3 := by omega
        subst hkn
        go_wp2
        go_ret
        exact ⟨by rw [HT.out]; rfl, Moved.same HH.out.1 (bel_then HB3.out hbel)⟩
  · rw [if_neg hl]
    have HD : Hid (∀ u, Below w.heap.size w u → Calls _ _ _ u _) := fun u hu => fdone_no (H.keep hu) hl
    clear hl
    obtain ⟨r, hr⟩ : ∃ r : List (List UInt8), r = [] := ⟨_, rfl⟩
    rw [← hr] at hp hall
    have HH := hid (And.intro H hA)
    have HSZ := hid (piece_sizes d hd hp)
    obtain ⟨n, hn⟩ : ∃ n, r.length = n := ⟨_, rfl⟩
    have hn3 : n ≤ 2900 := by
      have h1 := Sh.pieces_len 32 d.data.toList
      rw [hp, List.length_cons, hn, list_size] at h1
      omega
    have HS : Hid (Calls Tryz.prog 11 #[.string d, .int .u8 32] w _) := rsplit d 32 (by omega) (n + 1) (by rw [hp, List.length_cons, hn]) w
    rw [hp] at HS
    clear H hA hp hd
    go_enter Tryz.func13, Tryz.ntmps13
    go_wp2_with fail
    refine HS.out.mono ?_
    rintro e u1 ⟨hb1, a1, c1, rfl, ho1⟩
    have hr1 := ho1.texts_high
    obtain ⟨D, C, hD, hrD⟩ := words_tail hr1
    have hrD2 : bagS.rep u1 everywhere [.slice D n C] (Sh.texts r) := Shape.any hrD
    have HB1 := hid hb1
    have HR1 := hid (Shape.any hr1)
    clear hb1 hr1 hrD HS ho1
    have HN : Hid (Calls _ _ _ _ _) := rnumbers_yes D n C (Sh.texts r) u1 hrD2 (by omega) HSZ.out ((Sh.num_texts r).2 hall)
    clear hrD2 hn3
    rw [Sh.nums_texts] at HN
    go_wp2_with fail
    refine HN.out.mono ?_
    rintro e u2 ⟨hb2, na, nc, rfl, hn2⟩
    have HB2 := hid (bel_then HB1.out hb2)
    have HR2 := hid (Shape.below HR1.out hb2)
    obtain ⟨bw, ow, rfl, hbw, hcw0⟩ := (Texts.of_rep HR2.out).at (j := 0) (by omega)
    have hcw : u2.cell? ⟨bw, ow, none⟩ = some (.string ⟨w0.toArray⟩) := hcw0
    obtain ⟨x0, hx0⟩ : ∃ x0 : ByteArray, (⟨w0.toArray⟩ : ByteArray) = x0 := ⟨_, rfl⟩
    have hx0d : x0.data.toList = w0 := by rw [← hx0]
    rw [hx0] at hcw
    clear hb2 HN hcw0 hx0 hD
    subst hr
    have hn9 : n = 0 := hn.symm
    subst hn9
    have q0 : (x0.toList == ([97, 115, 107] : List UInt8)) = false := word_no (by rw [hx0d, h0]; decide)
    have q1 : (x0.toList == ([100, 101, 108, 105, 118, 101, 114] : List UInt8)) = false := word_no (by rw [hx0d, h0]; decide)
    have q2 : (x0.toList == ([100, 114, 111, 112] : List UInt8)) = false := word_no (by rw [hx0d, h0]; decide)
    have q3 : (x0.toList == ([116, 119, 105, 99, 101] : List UInt8)) = false := word_no (by rw [hx0d, h0]; decide)
    have q4 : (x0.toList == ([97, 100, 100] : List UInt8)) = false := word_no (by rw [hx0d, h0]; decide)
    have q5 : (x0.toList == ([114, 101, 116, 105, 114, 101] : List UInt8)) = false := word_no (by rw [hx0d, h0]; decide)
    have q6 : (x0.toList == ([98, 97, 103] : List UInt8)) = false := word_no (by rw [hx0d, h0]; decide)
    have q7 : (x0.toList == ([100, 111, 110, 101] : List UInt8)) = true := word_yes (hx0d.trans h0)
    clear h0 hn hx0d
    clear hn2
    go_wp2_with fail
    refine (HD.out u2 HB2.out).mono ?_
    rintro e u3 ⟨rfl, hb3⟩
    have HB3 := hid (bel_then HB2.out hb3)
    clear hb3 HD
    go_wp2
    go_loopw [8, 163] (fun v i wr => v = .string ⟨#[111, 107]⟩ ∧ i = .int .i64 0 ∧ wr = u3) (fun _ _ _ => 0)
    case atStart => exact ⟨rfl, rfl, rfl⟩
    case round =>
      obtain ⟨rfl, rfl, hww⟩ := hrel
      replace hww := hww.symm
      subst hww
      go_wp2
      go_ret
      exact ⟨rfl, Moved.same HH.out.1 HB3.out⟩
end

end Go.Proofs.YtokfcjgfpchffaaGreatDoor
