/- ChunkTwice: pieces that are cut again, and joined, are the text. -/
import Derived.Test.YtgbcneiciefkkaaRows
import Derived.Test.YtgbcneiciefkkaaChkL
import Derived.WalkKit
import Derived.ProofKit
import Derived.OpenShut
import Derived.ShutString
import Derived.ChangeOld
import Derived.Below
namespace Go.Proofs.Ytgbcneiciefkkaa.chunkTwice
open Go.ChangeShapes Go.WideShapes Go.ChangeAt Go.RowKit
open Go.ChangeMaps (open_string shut_string)
set_option linter.unusedVariables false

theorem own : ownKnob Try.prog.godebug = none := by kernel_rfl
theorem laidOut : laidOutB Try.prog = true := by kernel_rfl

/- The walk: the call returns true, and nothing that was there is written. -/
set_option maxHeartbeats 4000000 in
set_option maxRecDepth 100000 in
theorem walk (a0 : ByteArray) (a1 : Int) (a2 : Int) (w : World) (w0 : a0.size ≤ maxLen) (w1 : (Lit.int .u8 a1).wf = true) (w2 : (Lit.int .u8 a2).wf = true) :
    Calls Try.prog 8 #[.string a0, .int .u8 a1, .int .u8 a2] w fun e w' => e = .returned (.bool true) ∧ Below w.heap.size w w' := by
  have b1 := bounds_u8 w1
  have b2 := bounds_u8 w2
  clear w1 w2
  obtain ⟨i0, hi0, hi1, hi2, hi3⟩ := info_parts Try.infoText
  obtain ⟨a, ha, ea⟩ : ∃ a : Nat, (1 ≤ a ∧ a ≤ 8) ∧ 1 + a1 % 8 = (a : Int) := ⟨(1 + a1 % 8).toNat, by omega, by omega⟩
  obtain ⟨t, ht, et⟩ : ∃ t : Nat, (1 ≤ t ∧ t ≤ 8) ∧ 1 + a2 % 8 = (t : Int) := ⟨(1 + a2 % 8).toNat, by omega, by omega⟩
  have h81 : 0 ≤ a1 % 8 := by omega
  have h82 : a1 % 8 < 8 := by omega
  have h83 : 0 ≤ a2 % 8 := by omega
  have h84 : a2 % 8 < 8 := by omega
  obtain ⟨b, hb⟩ : ∃ b : Nat, a * t = b := ⟨_, rfl⟩
  have eb : (a : Int) * (t : Int) = (b : Int) := by rw [← hb]; exact (Int.natCast_mul a t).symm
  have hb1 : 1 ≤ b := by rw [← hb]; exact Nat.mul_le_mul ha.1 ht.1
  have hb64 : b ≤ 64 := by rw [← hb]; exact Nat.mul_le_mul ha.2 ht.2
  by_cases hl : 600 < a0.size
  · have hi : (600 : Int) < (a0.size : Int) := by omega
    go_enter Try.func8, Try.ntmps8
    go_wp2_with (go_at_call 10; refine (kawake _).mono ?_; rintro e u6 ⟨rfl, hb6⟩)
    go_ret
    exact ⟨rfl, hb6⟩
  have hi : ¬ (600 : Int) < (a0.size : Int) := by omega
  obtain ⟨n, hn⟩ : ∃ n, Ck.num a0.size b = n := ⟨_, rfl⟩
  obtain ⟨m, hm⟩ : ∃ m, Ck.num a0.size a = m := ⟨_, rfl⟩
  have hn6 : n ≤ 600 := by have := num_le_size (n := a0.size) hb1; omega
  have hm6 : m ≤ 600 := by have := num_le_size (n := a0.size) ha.1; omega
  have HC1 : Hid (∀ w, Calls _ _ _ _ _) := kcut a0 b hb1 hb64 (by omega) n hn
  have HC2 : Hid (∀ w, Calls _ _ _ _ _) := kcut a0 a ha.1 (by omega) (by omega) m hm
  have HG : Hid (∀ k, k < n → (texts (Ck.cut a0.data.toList b)).getD k noText = ⟨(Ck.piece a0.data.toList b k).toArray⟩) := fun k hk => cut_get a0 hn hk
  have HP : Hid (∀ k, k < n → (⟨(Ck.piece a0.data.toList b k).toArray⟩ : ByteArray).size ≤ 600) := fun k hk => by rw [bsize, Ck.piece_len, list_size]; omega
  have hln : Ck.num a0.data.toList.length b = n := by rw [list_size]; exact hn
  have hlm : Ck.num a0.data.toList.length a = m := by rw [list_size]; exact hm
  have HN : Hid (∀ k, k < n → texts (Ck.cutTo a0.data.toList a (min (k * t) m)) ++ texts (Ck.cut (Ck.piece a0.data.toList b k) a) = texts (Ck.cutTo a0.data.toList a (min ((k + 1) * t) m))) := fun k hk => by
    have h9 := Ck.cut_next (a := a) (m := t) ha.1 ht.1 a0.data.toList (k := k) (by rw [hb, hln]; exact hk)
    rw [hb, hlm] at h9
    rw [← h9]
    unfold texts
    rw [List.map_append]
  have HE : Hid (texts (Ck.cutTo a0.data.toList a (min (n * t) m)) = texts (Ck.cut a0.data.toList a)) := by
    show _ = _
    have h9 := Ck.cut_twice (a := a) (m := t) ha.1 ht.1 a0.data.toList
    rw [hb, hln, hlm] at h9
    rw [h9]
  have HCL : Hid (∀ k, (texts (Ck.cutTo a0.data.toList a k)).length = k) := fun k => by rw [texts_len, Ck.cutTo_len]
  have HLA : Hid _ := cut_len a0 hm
  have HJ : Hid _ := joined a0 (z := a) (by omega)
  have HJL : Hid _ := joined_len a0 (z := a) (by omega)
  have HS : Hid (a0.size ≤ 600) := by show _ ≤ _; omega
  have HAB : Hid ((1 ≤ a ∧ a ≤ 8) ∧ n * t ≤ 5000) := ⟨ha, by have : n * t ≤ 600 * 8 := Nat.mul_le_mul hn6 ht.2; omega⟩
  clear hn hm hl w0 hln hlm ha ht hb
  go_enter Try.func8, Try.ntmps8
  go_wp2_with fail
  refine (HC1.out _).mono ?_
  rintro e u1 ⟨hbb1, a3, c3, rfl, ho3⟩
  go_wp2_with fail
  refine (HC2.out _).mono ?_
  rintro e u2 ⟨hbb2, a4, c4, rfl, ho4⟩
  have hB2 := bel_then hbb1 hbb2
  have HT : Hid (Texts u2 a3 n (texts (Ck.cut a0.data.toList b))) := (Texts.of_rep ho3.is).keep hbb2
  have HT2 : Hid (Texts u2 a4 m (texts (Ck.cut a0.data.toList a))) := Texts.of_rep ho4.is
  clear HC1 HC2 ho3 ho4 hbb1 hbb2 b1 b2
  go_wp2
  go_loopw [13, 47] (fun v i wr => ∃ (k M : Nat) (ap : Option Addr) (cp : Nat), k ≤ n ∧ i = .int .i64 k ∧ v = .slice ap M cp ∧ Hid (M = min (k * t) m) ∧ Own strS wr u2.heap.size 9 (.slice ap M cp) (texts (Ck.cutTo a0.data.toList a M)) ∧ Below u2.heap.size u2 wr) (fun _ i _ => n - (intOf i).toNat)
  case atStart => exact ⟨0, 0, none, 0, Nat.zero_le _, rfl, rfl, by show 0 = min (0 * t) m; rw [Nat.zero_mul]; omega, Own.nil _ _ _ _, Below.refl _ _⟩
  case round =>
    obtain ⟨k, M, ap, cp, hk, rfl, rfl, HM, hown, hbel⟩ := hrel
    by_cases hlt : k < n
    · have hli : (k : Int) < (n : Int) := by omega
      obtain ⟨b5, o5, rfl, _, hc5⟩ := Texts.at (Texts.keep HT.out hbel) hlt
      rw [HG.out k hlt] at hc5
      have HPS : Hid _ := HP.out k hlt
      obtain ⟨c, hc⟩ : ∃ c, Ck.num (⟨(Ck.piece a0.data.toList b k).toArray⟩ : ByteArray).size a = c := ⟨_, rfl⟩
      have HC : Hid (Calls _ _ _ _ _) := kcut ⟨(Ck.piece a0.data.toList b k).toArray⟩ a HAB.out.1.1 (by have := HAB.out; omega) (by have := HPS.out; omega) c hc wr
      have hc6 : c ≤ 600 := by have := num_le_size (n := (⟨(Ck.piece a0.data.toList b k).toArray⟩ : ByteArray).size) (z := a) HAB.out.1.1; have := HPS.out; omega
      have HK : Hid (texts (Ck.cutTo a0.data.toList a M) ++ texts (Ck.cut (⟨(Ck.piece a0.data.toList b k).toArray⟩ : ByteArray).data.toList a) = texts (Ck.cutTo a0.data.toList a (min ((k + 1) * t) m))) := by
        show _ = _
        rw [show (⟨(Ck.piece a0.data.toList b k).toArray⟩ : ByteArray).data.toList = Ck.piece a0.data.toList b k by simp, HM.out]
        exact HN.out k hlt
      have HK2 : Hid (M + c = min ((k + 1) * t) m) := by
        have h9 := congrArg List.length HK.out
        rw [List.length_append, HCL.out, HCL.out, cut_len _ hc] at h9
        exact h9
      have HML : Hid (M ≤ 5000) := by
        have h9 := HM.out
        have h8 := Nat.mul_le_mul_right t hk
        have := HAB.out.2
        show _ ≤ _
        omega
      obtain ⟨M2, HM2⟩ : ∃ M2, Hid (min ((k + 1) * t) m = M2) := ⟨_, rfl⟩
      obtain ⟨L2, HL2⟩ : ∃ L2, Hid (texts (Ck.cutTo a0.data.toList a M2) = L2) := ⟨_, rfl⟩
      have hk5 : (texts (Ck.cutTo a0.data.toList a M)).length + c = M2 := by rw [HCL.out, HK2.out, HM2.out]
      have hk6 : (texts (Ck.cutTo a0.data.toList a M)).length + c ≤ 100000 := by rw [HCL.out]; have := HML.out; omega
      have hcat0 := HK.out
      rw [HM2.out, HL2.out] at hcat0
      have HCAT : Hid _ := hcat0
      clear hc hcat0 HK HK2
      generalize (⟨(Ck.piece a0.data.toList b k).toArray⟩ : ByteArray) = p at *
      go_wp2_with fail
      refine HC.out.mono ?_
      rintro e u4 ⟨hb4, a5, c5, rfl, ho5⟩
      have hown4 := hown.keep hb4
      have hap : ∀ b', wr.heap.size ≤ b' → some b' ≠ Value.ownBlock (.slice ap M cp) := fun b' hb' h' => by
        have := (hown.lt b' h'.symm).2
        omega
      have hr5 := Own.top plain_str ho5
      have hB4 := bel_then hbel hb4
      have hs4 : u2.heap.size ≤ u4.heap.size := hB4.size
      have hcat := HCAT.out
      clear HC ho5 hown HCAT
      generalize texts (Ck.cutTo a0.data.toList a M) = L at *
      generalize texts (Ck.cut p.data.toList a) = Lp at *
      go_wp2_with (at_builtin; refine wpList_appK strS (by simp [Region.wanted]) (.tmp 59) (.tmp 60) 31 rfl u2.heap.size 9 i0 (.string noText) 16 Try.underlying31 hi0 hi1 hi2 hi3 rfl Nat.one_pos (by omega) (by rfl) hown4 (by rfl) hr5 hap hk6 hs4 M2 hk5 L2 hcat ?_; intro a7 c7 u7 ho7 hg7 hb7 hat7)
      go_roundw
      case rel => exact ⟨k + 1, M2, a7, c7, by omega, by go_num, rfl, HM2.out.symm, by rw [HL2.out]; exact ho7, hB4.trans hb7⟩
      case measure => simp [intOf]; omega
    · have hkn : k = n := by omega
      subst hkn
      have hli : ¬ (k : Int) < (k : Int) := by omega
      have hown2 := hown
      rw [HM.out, HE.out] at hown2
      have HLL : Hid (M = m) := by
        have h9 := congrArg List.length HE.out
        rw [HCL.out, HLA.out] at h9
        show _ = _
        rw [HM.out]
        exact h9
      have hmm : min (k * t) m = m := by rw [← HM.out]; exact HLL.out
      rw [hmm] at hown2
      clear hown hmm
      obtain rfl := HLL.out
      have HT3 : Hid (Texts wr ap M (texts (Ck.cut a0.data.toList a))) := Texts.of_rep hown2.is
      have HT4 : Hid (Texts wr a4 M (texts (Ck.cut a0.data.toList a))) := Texts.keep HT2.out hbel
      have HR : Hid _ := hown2.is
      have hB4 := bel_then hB2 hbel
      have q1 : ((M : Int) != (M : Int)) = false := by simp
      clear hown2 HM HLL
      obtain ⟨W0, hW0⟩ : ∃ W0, W0 = wr := ⟨_, rfl⟩
      subst hW0
      go_wp2
      go_loopw [78] (fun i wr => ∃ j : Nat, j ≤ M ∧ i = .int .i64 j ∧ Below W0.heap.size W0 wr) (fun i _ => M - (intOf i).toNat)
      case atStart => exact ⟨0, Nat.zero_le _, rfl, Below.refl _ _⟩
      case round =>
        obtain ⟨j, hj, rfl, hbel2⟩ := hrel
        by_cases hlt2 : j < M
        · have hli2 : (j : Int) < (M : Int) := by omega
          have hj0 : (0 : Int) ≤ (j : Int) := by omega
          obtain ⟨b5, o5, rfl, _, hc5⟩ := Texts.at (Texts.keep HT3.out hbel2) hlt2
          obtain ⟨b6, o6, rfl, _, hc6⟩ := Texts.at (Texts.keep HT4.out hbel2) hlt2
          generalize (texts (Ck.cut a0.data.toList a)).getD j noText = x at *
          have q2 : (x.toList == x.toList) = true := by simp
          have d1 : ∀ x9 : Later wr, x9.u.cell? ⟨b5, o5 + j, none⟩ = some (.string x) := fun x9 => x9.cell hc5
          have d2 : ∀ x9 : Later wr, x9.u.cell? ⟨b6, o6 + j, none⟩ = some (.string x) := fun x9 => x9.cell hc6
          have hne9 : Nonempty (Later wr) := Later.there wr
          clear hc5 hc6
          go_wp2
          refine region_later (by kernel_rfl) (by kernel_rfl) ?_
          repeat (go_big_quiet_step (fail))
          refine wpQuiet_nil ?_
          intro x9
          obtain ⟨W9, hb9⟩ := x9
          have hB9 := bel_then hbel2 hb9
          clear d1 d2 hne9
          go_wp2
          go_roundw
          case rel => exact ⟨j + 1, by omega, by go_num, hB9⟩
          case measure => simp [intOf]; omega
        · have hli2 : ¬ (j : Int) < (M : Int) := by omega
          have e5 : (a0.toList == a0.toList) = true := by simp
          have HJ2 : Hid (Calls _ _ _ _ _) := kjoin ap M cp _ everywhere wr (Shape.below HR.out hbel2) (by omega) (by rw [HJL.out]; have := HS.out; omega)
          rw [HJ.out] at HJ2
          have hB5 := bel_then hB4 hbel2
          go_wp2_with fail
          refine HJ2.out.mono ?_
          rintro e u7 ⟨rfl, hb7⟩
          have hB7 := bel_then hB5 hb7
          go_wp2_with (go_at_call 10; refine (kawake _).mono ?_; rintro e u6 ⟨rfl, hb6⟩)
          go_ret
          exact ⟨rfl, bel_then hB7 hb6⟩

/- From the walk to the row. -/
set_option maxRecDepth 100000 in
theorem lifted (os : Os) (started : os.Started) (H : Type) (enc : TypeId × Value → H) :
    ReturnsInHanded {} Try.checked os 8 .any (Rows.chunkTwiceSpec.pre6 enc Try.prog Try.f8 Rows.chunkTwiceRow.domain false) (Rows.chunkTwiceSpec.post enc Try.prog Try.f8 false true false false) := by
  refine returnsInHanded_of_change (C := Try.checked) own started (by kernel_rfl) Try.func8
    (ChangeSpec.witness6 (enc := enc) (C := Try.checked) false ⟨#[], #[.string ByteArray.empty, .int .u8 0, .int .u8 0], []⟩ 8 (by kernel_rfl) (by kernel_rfl) (by kernel_rfl) (by kernel_rfl)) ?_
  intro W base args ds gs before hval0 hW hcnd _
  have hval : ∀ (j : Nat) t v, Try.f8.params[j]? = some t → args[j]? = some v → Value.okWide Try.prog W .any base t v := hval0
  have hW' := hW
  obtain ⟨p, q, hA0, hV, rfl, hfz, hnd⟩ := hW
  have hA : DataW.TrodAll enc Try.prog W 0 (fun _ => true) true Try.f8.params.toList args.toList ds p := hA0
  rw [Try.params8] at hA hval
  obtain ⟨v0, vs0, d0, ds0, p0, q0, hargs, rfl, rfl, h0, r0⟩ := trodAll_cons hA
  obtain ⟨v1, vs1, d1, ds1, p1, q1, rfl, rfl, rfl, h1, r1⟩ := trodAll_cons r0
  obtain ⟨v2, vs2, d2, ds2, p2, q2, rfl, rfl, rfl, h2, r2⟩ := trodAll_cons r1
  obtain ⟨rfl, rfl, rfl⟩ := trodAll_nil r2
  obtain rfl : args = #[v0, v1, v2] := by cases args; simp_all
  obtain ⟨rfl, rfl⟩ := trodVars_none hV
  obtain ⟨a0, rfl, rfl, rfl, w0⟩ := open_string Try.underlying9 (hval 0 9 v0 rfl rfl) h0
  obtain ⟨a1, rfl, rfl, rfl, w1⟩ := open_int Try.underlying5 (hval 1 5 v1 rfl rfl) h1
  obtain ⟨a2, rfl, rfl, rfl, w2⟩ := open_int Try.underlying5 (hval 2 5 v2 rfl rfl) h2
  clear hA0 hval0
  refine (walk a0 a1 a2 W w0 w1 w2).mono fun e W' ⟨he, bel⟩ => ?_
  subst he
  exact ⟨_, rfl, _, _, _, [], _, [], hW', trodAll_mk1 (shut_bool Try.underlying4 _), (trodAll_cons_mk (shut_string Try.underlying9 w0) (trodAll_cons_mk (shut_int Try.underlying5 w1) (trodAll_cons_mk (shut_int Try.underlying5 w2) trodAll_mk0))), rfl, bel.frame _, fun h => by cases h⟩

theorem over : Rows.chunkTwiceRow.holds Try.pinned (OpenSpec.ofChange Rows.chunkTwiceSpec) :=
  OpenClaim.holds_of_wide 8 Try.f8 rfl rfl rfl rfl rfl rfl rfl ⟨rfl, rfl, rfl, rfl, rfl⟩ rfl rfl rfl rfl rfl (by kernel_rfl) Try.func8 (by kernel_rfl)
    (of_decide_eq_true (by kernel_rfl)) (by unfold Func.isWrapper; first | (rw [if_pos (by decide +kernel)]; kernel_rfl) | (rw [if_neg (by decide +kernel)]; exact ⟨rfl, rfl⟩))
    (fun os started H enc _ => lifted os started H enc)

end Go.Proofs.Ytgbcneiciefkkaa.chunkTwice

namespace Go.Proofs.Ytgbcneiciefkkaa
theorem chunkTwice_holds : Rows.ChunkTwiceSaid := chunkTwice.over
end Go.Proofs.Ytgbcneiciefkkaa
