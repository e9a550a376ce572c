/- What the statements' own 'do' is: an act. -/
import Derived.Test.YtfidgcanolegfaaGreatJz
namespace Go.Proofs.YtfidgcanolegfaaGreat
open Go.ChangeShapes Go.WideShapes Go.ChangeAt Go.RowKit


/-- The frame that an act means. -/
def pickI (s : Ft.St) (n : Nat) : Nat := if s.bag.length = 0 then 0 else n % s.bag.length
/-- What an act does: of the kind k, with the numbers n and m. -/
def Acts (dim : Int) (ms : List Ly) (k n m : Nat) (s s' : Ft.St) : Prop :=
  (k % 6 = 0 ∧ s' = Ft.ask ms s) ∨ (k % 6 = 1 ∧ s' = Ft.deliver dim ms s (pickI s n)) ∨ (k % 6 = 2 ∧ s' = Ft.drop s (pickI s n)) ∨ (k % 6 = 3 ∧ s' = Ft.twice s (pickI s n)) ∨
  (k % 6 = 4 ∧ ∃ E M X, Pl.Add s.e s.h ((n % 8 : Nat) : Int) ((m % 5 : Nat) : Int) E M X ∧ s' = Ft.turned s E M) ∨ (k % 6 = 5 ∧ ∃ E M X, Pl.Ret s.e s.h ((n % 8 : Nat) : Int) ((m % 5 : Nat) : Int) E M X ∧ s' = Ft.turned s E M)
section
variable {dim : Int} {ms : List Ly} {T : List (List Int)} {s s' : Ft.St} {k n m : Nat}
theorem acts_there (dim : Int) (ms : List Ly) (k n m : Nat) (s : Ft.St) : ∃ s', Acts dim ms k n m s s' := by
  rcases (by omega : k % 6 = 0 ∨ k % 6 = 1 ∨ k % 6 = 2 ∨ k % 6 = 3 ∨ k % 6 = 4 ∨ k % 6 = 5) with h | h | h | h | h | h
  · exact ⟨_, .inl ⟨h, rfl⟩⟩
  · exact ⟨_, .inr (.inl ⟨h, rfl⟩)⟩
  · exact ⟨_, .inr (.inr (.inl ⟨h, rfl⟩))⟩
  · exact ⟨_, .inr (.inr (.inr (.inl ⟨h, rfl⟩)))⟩
  · obtain ⟨E, M, X, hA⟩ := Pl.add_there s.e s.h ((n % 8 : Nat) : Int) ((m % 5 : Nat) : Int)
    exact ⟨_, .inr (.inr (.inr (.inr (.inl ⟨h, E, M, X, hA, rfl⟩))))⟩
  · obtain ⟨E, M, X, hA⟩ := Pl.ret_there s.e s.h ((n % 8 : Nat) : Int) ((m % 5 : Nat) : Int)
    exact ⟨_, .inr (.inr (.inr (.inr (.inr ⟨h, E, M, X, hA, rfl⟩))))⟩
theorem Alive.acts (H : Alive dim ms T s) (ha : Acts dim ms k n m s s') : Alive dim ms T s' := by
  rcases ha with ⟨_, rfl⟩ | ⟨_, rfl⟩ | ⟨_, rfl⟩ | ⟨_, rfl⟩ | ⟨_, E, M, X, hA, rfl⟩ | ⟨_, E, M, X, hA, rfl⟩
  · exact H.ask
  · exact H.deliver _
  · exact H.drop _
  · exact H.twice _
  · exact H.turned (Pl.Add.right hA H.i.map) (Pl.Add.len hA)
  · exact H.turned (Pl.Ret.right hA H.i.map) (Pl.Ret.len hA)
theorem settled_acts (H : Alive dim ms T s) (hs : Ft.Settled ms s) (ha : Acts dim ms k n m s s') : Ft.Settled ms s' := by
  rcases ha with ⟨_, rfl⟩ | ⟨_, rfl⟩ | ⟨_, rfl⟩ | ⟨_, rfl⟩ | ⟨_, E, M, X, hA, rfl⟩ | ⟨_, E, M, X, hA, rfl⟩
  · exact Ft.ask_settled hs
  · exact Ft.deliver_settled H.i H.m H.t hs _
  · exact hs
  · exact Ft.twice_settled hs _
  · exact hs
  · exact hs
theorem drop_none {i : Nat} (h : s.bag.length ≤ i) : Ft.drop s i = s := by
  unfold Ft.drop
  rw [List.eraseIdx_of_length_le h]
theorem deliver_none {i : Nat} (h : s.bag.length ≤ i) : Ft.deliver dim ms s i = s := by
  unfold Ft.deliver
  rw [if_neg (by omega)]
theorem twice_none {i : Nat} (h : s.bag.length ≤ i) : Ft.twice s i = s := by
  unfold Ft.twice
  rw [if_neg (by omega)]
theorem qs_twice (i : Nat) : Ft.qs ms (Ft.twice s i) = Ft.qs ms s := by
  unfold Ft.twice
  split <;> rfl
end

section
variable {O V : Nat → Prop} {w : World} {p : Nat} {dim : Int} {ms : List Ly} {s : Ft.St} {q : List Pt}
set_option maxRecDepth 100000 in
set_option maxHeartbeats 4000000 in
theorem fdo {T : List (List Int)} (H : FlAt O V w p dim ms s (Ft.qs ms s)) (hA : Alive dim ms T s) (k n m : Nat) (hk : k ≤ 255) (hn : n ≤ 255) (hm : m ≤ 255) (s' : Ft.St) (hact : Acts dim ms k n m s s') :
    Calls Tryz.prog 22 #[.pointer (some ⟨p, 0, none⟩), .agg #[.int .u8 (k : Int), .int .u8 (n : Int), .int .u8 (m : Int)]] w fun e w' => e = .returned (.tuple #[]) ∧ ∃ V', Mv V V' w w' ∧ FlAt O V' w' p dim ms s' (Ft.qs ms s') := by
  have hB := new_bel w (.cells #[.int .u8 (k : Int), .int .u8 (n : Int), .int .u8 (m : Int)] 53)
  have ka := Box.new w 53 #[.int .u8 (k : Int), .int .u8 (n : Int), .int .u8 (m : Int)]
  have hat := H.keep hB
  obtain ⟨kk, hkk⟩ : ∃ kk, s.bag.length = kk := ⟨_, rfl⟩
  have HBG : Hid (Calls _ _ _ _ _) := fbag hat hA.i.few kk hkk
  have HKK := hid hkk
  have HA := hid hA
  have HACT := hid hact
  have HAT := hid hat
  have hk200 : kk ≤ 200 := by rw [← hkk]; exact hA.i.few
  clear hkk hA hact hat H
  go_enter Tryz.func22, Tryz.ntmps22
  go_upto_region 1 with fail
  generalize w.alloc (.cells #[.int .u8 (k : Int), .int .u8 (n : Int), .int .u8 (m : Int)] 53) = W at *
  go_wp2_with fail
  refine HBG.out.mono ?_
  rintro e u1 ⟨hb1, ba, bc, rfl, _⟩
  have HAT1 := hid (HAT.out.keep hb1)
  have HM1 := hid (Mv.of_bel (V := V) (bel_then hB hb1))
  have ka1 := ka.keep hb1
  have a0 := ka1.cell 0 rfl
  have a1 := ka1.cell 1 rfl
  have a2 := ka1.cell 2 rfl
  clear hb1 hB ka ka1 HBG HAT
  by_cases hb0 : kk = 0
  · have hgt : ¬ (0 : Int) < (kk : Int) := by omega
    have h00 : s.bag.length = 0 := by rw [HKK.out]; exact hb0
    have H00 := hid h00
    have hpi : pickI s n = 0 := by unfold pickI; rw [if_pos h00]
    have HPI := hid hpi
    clear h00 hpi hb0
    rcases HACT.out with ⟨hq, rfl⟩ | ⟨hq, hs⟩ | ⟨hq, hs⟩ | ⟨hq, hs⟩ | ⟨hq, E, M, X, hX, rfl⟩ | ⟨hq, E, M, X, hX, rfl⟩
    · have hk6 : (k : Int) % 6 = 0 := by omega
      have HC : Hid (Calls _ _ _ _ _) := faskM HAT1.out HA.out.i HA.out.m HA.out.t
      clear hq
      go_wp2_with (go_at_call 25; refine HC.out.mono ?_; rintro e u5 ⟨rfl, hm5, hat5⟩)
      go_end0
      rw [qs_ask]
      exact ⟨rfl, V, HM1.out.trans hm5, hat5⟩
    · have hk6 : (k : Int) % 6 = 1 := by omega
      have hs2 : s' = s := by rw [hs, HPI.out, deliver_none (by rw [H00.out]; omega)]
      subst hs2
      have HC : Hid (Calls _ _ _ _ _) := fdeliver_out HAT1.out HA.out.i.few 0 (by rw [H00.out]; omega)
      clear hq hs
      go_wp2_with (go_at_call 24; refine HC.out.mono ?_; rintro e u5 ⟨rfl, hb5⟩)
      go_end0
      exact ⟨rfl, V, HM1.out.bel hb5, HAT1.out.keep hb5⟩
    · have hk6 : (k : Int) % 6 = 2 := by omega
      have hs2 : s' = s := by rw [hs, HPI.out, drop_none (by rw [H00.out]; omega)]
      subst hs2
      have HC : Hid (Calls _ _ _ _ _) := fdrop_out HAT1.out HA.out.i.few 0 (by rw [H00.out]; omega)
      clear hq hs
      go_wp2_with (go_at_call 30; refine HC.out.mono ?_; rintro e u5 ⟨rfl, hb5⟩)
      go_end0
      exact ⟨rfl, V, HM1.out.bel hb5, HAT1.out.keep hb5⟩
    · have hk6 : (k : Int) % 6 = 3 := by omega
      have hs2 : s' = s := by rw [hs, HPI.out, twice_none (by rw [H00.out]; omega)]
      subst hs2
      have HC : Hid (Calls _ _ _ _ _) := ftwice_out HAT1.out HA.out.i.few 0 (by rw [H00.out]; omega)
      clear hq hs
      go_wp2_with (go_at_call 54; refine HC.out.mono ?_; rintro e u5 ⟨rfl, hb5⟩)
      go_end0
      exact ⟨rfl, V, HM1.out.bel hb5, HAT1.out.keep hb5⟩
    · have hk6 : (k : Int) % 6 = 4 := by omega
      obtain ⟨x, hx⟩ : ∃ x : Nat, n % 8 = x := ⟨_, rfl⟩
      obtain ⟨y, hy⟩ : ∃ y : Nat, m % 5 = y := ⟨_, rfl⟩
      rw [hx, hy] at hX
      have hn8 : (n : Int) % 8 = (x : Int) := by omega
      have hm5 : (m : Int) % 5 = (y : Int) := by omega
      have hx8 : x < 8 := by omega
      have hy5 : y < 5 := by omega
      have HC : Hid (Calls _ _ _ _ _) := fladd HAT1.out (Pl.right_short HA.out.i.map) (x : Int) (y : Int) E X M hX
      clear hq hX hx hy
      go_wp2_with (go_at_call 28; refine HC.out.mono ?_; rintro e u5 ⟨rfl, hm5', hat5⟩)
      go_end0
      exact ⟨rfl, V, HM1.out.trans hm5', hat5⟩
    · have hk6 : (k : Int) % 6 = 5 := by omega
      obtain ⟨x, hx⟩ : ∃ x : Nat, n % 8 = x := ⟨_, rfl⟩
      obtain ⟨y, hy⟩ : ∃ y : Nat, m % 5 = y := ⟨_, rfl⟩
      rw [hx, hy] at hX
      have hn8 : (n : Int) % 8 = (x : Int) := by omega
      have hm5 : (m : Int) % 5 = (y : Int) := by omega
      have hx8 : x < 8 := by omega
      have hy5 : y < 5 := by omega
      have HC : Hid (Calls _ _ _ _ _) := flretire HAT1.out (Pl.right_short HA.out.i.map) (x : Int) (y : Int) E X M hX
      clear hq hX hx hy
      go_wp2_with (go_at_call 29; refine HC.out.mono ?_; rintro e u5 ⟨rfl, hm5', hat5⟩)
      go_end0
      exact ⟨rfl, V, HM1.out.trans hm5', hat5⟩
  · have hgt : (0 : Int) < (kk : Int) := by omega
    obtain ⟨i, hi⟩ : ∃ i : Nat, n % kk = i := ⟨_, rfl⟩
    have hrem : (n : Int) % (kk : Int) = (i : Int) := by rw [← hi]; exact (Int.natCast_emod n kk).symm
    have hik : i < kk := by rw [← hi]; exact Nat.mod_lt _ (by omega)
    have hne : ((kk : Int) == 0) = false := by rw [beq_eq_false_iff_ne]; omega
    have hpi : pickI s n = i := by unfold pickI; rw [if_neg (by rw [HKK.out]; exact hb0), HKK.out]; exact hi
    have HPI := hid hpi
    have HIL : Hid (i < s.bag.length) := by show i < s.bag.length; rw [HKK.out]; exact hik
    clear hi hpi hb0
    rcases HACT.out with ⟨hq, rfl⟩ | ⟨hq, hs⟩ | ⟨hq, hs⟩ | ⟨hq, hs⟩ | ⟨hq, E, M, X, hX, rfl⟩ | ⟨hq, E, M, X, hX, rfl⟩
    · have hk6 : (k : Int) % 6 = 0 := by omega
      have HC : Hid (Calls _ _ _ _ _) := faskM HAT1.out HA.out.i HA.out.m HA.out.t
      clear hq
      go_wp2_with (go_at_call 25; refine HC.out.mono ?_; rintro e u5 ⟨rfl, hm5, hat5⟩)
      go_end0
      rw [qs_ask]
      exact ⟨rfl, V, HM1.out.trans hm5, hat5⟩
    · have hk6 : (k : Int) % 6 = 1 := by omega
      rw [HPI.out] at hs
      subst hs
      have HC : Hid (Calls _ _ _ _ _) := fdeliver_in HAT1.out HA.out i HIL.out
      clear hq
      go_wp2_with (go_at_call 24; refine HC.out.mono ?_; rintro e u5 ⟨rfl, V5, hm5, hat5⟩)
      go_end0
      exact ⟨rfl, V5, HM1.out.trans hm5, hat5⟩
    · have hk6 : (k : Int) % 6 = 2 := by omega
      rw [HPI.out] at hs
      subst hs
      have HC : Hid (Calls _ _ _ _ _) := fdrop_in HAT1.out HA.out.i.few i HIL.out
      clear hq
      go_wp2_with (go_at_call 30; refine HC.out.mono ?_; rintro e u5 ⟨rfl, hm5, hat5⟩)
      go_end0
      exact ⟨rfl, V, HM1.out.trans hm5, hat5⟩
    · have hk6 : (k : Int) % 6 = 3 := by omega
      rw [HPI.out] at hs
      subst hs
      have HC : Hid (Calls _ _ _ _ _) := ftwice_in HAT1.out HA.out.i.few i HIL.out
      clear hq
      go_wp2_with (go_at_call 54; refine HC.out.mono ?_; rintro e u5 ⟨rfl, hm5, hat5⟩)
      go_end0
      rw [qs_twice]
      exact ⟨rfl, V, HM1.out.trans hm5, hat5⟩
    · have hk6 : (k : Int) % 6 = 4 := by omega
      obtain ⟨x, hx⟩ : ∃ x : Nat, n % 8 = x := ⟨_, rfl⟩
      obtain ⟨y, hy⟩ : ∃ y : Nat, m % 5 = y := ⟨_, rfl⟩
      rw [hx, hy] at hX
      have hn8 : (n : Int) % 8 = (x : Int) := by omega
      have hm5 : (m : Int) % 5 = (y : Int) := by omega
      have hx8 : x < 8 := by omega
      have hy5 : y < 5 := by omega
      have HC : Hid (Calls _ _ _ _ _) := fladd HAT1.out (Pl.right_short HA.out.i.map) (x : Int) (y : Int) E X M hX
      clear hq hX hx hy
      go_wp2_with (go_at_call 28; refine HC.out.mono ?_; rintro e u5 ⟨rfl, hm5', hat5⟩)
      go_end0
      exact ⟨rfl, V, HM1.out.trans hm5', hat5⟩
    · have hk6 : (k : Int) % 6 = 5 := by omega
      obtain ⟨x, hx⟩ : ∃ x : Nat, n % 8 = x := ⟨_, rfl⟩
      obtain ⟨y, hy⟩ : ∃ y : Nat, m % 5 = y := ⟨_, rfl⟩
      rw [hx, hy] at hX
      have hn8 : (n : Int) % 8 = (x : Int) := by omega
      have hm5 : (m : Int) % 5 = (y : Int) := by omega
      have hx8 : x < 8 := by omega
      have hy5 : y < 5 := by omega
      have HC : Hid (Calls _ _ _ _ _) := flretire HAT1.out (Pl.right_short HA.out.i.map) (x : Int) (y : Int) E X M hX
      clear hq hX hx hy
      go_wp2_with (go_at_call 29; refine HC.out.mono ?_; rintro e u5 ⟨rfl, hm5', hat5⟩)
      go_end0
      exact ⟨rfl, V, HM1.out.trans hm5', hat5⟩
end

end Go.Proofs.YtfidgcanolegfaaGreat
