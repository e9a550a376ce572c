/- What copied, Add and Retire of package place do when called. -/
import Derived.Test.YtpfhjdlmjehfnaaPlcA
import Derived.Test.YtpfhjdlmjehfnaaLo
import Derived.Test.YtpfhjdlmjehfnaaLits
namespace Go.Proofs.Ytpfhjdlmjehfnaa
open Go.ChangeShapes Go.WideShapes Go.ChangeAt Go.RowKit

theorem Try.infoMap : (Try.prog.info? 24).map (·.size) = some 2 := by kernel_rfl



set_option maxRecDepth 100000 in
set_option maxHeartbeats 1000000 in
theorem pcopied (P : Nat → Prop) (e : Int) (a : Option Addr) (n c : Nat) (m : List (List Int)) (x : Nat) (w : World) (h : matS.rep w P [.slice a n c] m) (hP : ∀ b, P b → b < w.heap.size) (hs : Pl.Short m) :
    Calls Try.prog 39 #[.agg #[.int .i64 e, .slice a n c]] w fun r w' => Below w.heap.size w w' ∧ ∃ a' c', r = .returned (.agg #[.int .i64 e, .slice a' n c']) ∧ Mixed (fun b => P b ∨ w.heap.size + 2 ≤ b) w' (w.heap.size + 2) 3 67 a' n c' x n m := by
  have hl := (sliceS_len h).1
  have hn : n ≤ 1000 := by have := hs.1; omega
  have HL : Hid (m.length = n) := hl
  have HS : Hid (Pl.Short m) := hs
  have hB := bel_two w (.cells #[.int .i64 e, .slice a n c] 24) (.cells #[.int .i64 0, .slice none 0 0] 24)
  have kp := (Box.new w 24 #[.int .i64 e, .slice a n c]).keep (new_bel _ (.cells #[.int .i64 0, .slice none 0 0] 24))
  have kr := Box.new (w.alloc (.cells #[.int .i64 e, .slice a n c] 24)) 24 #[.int .i64 0, .slice none 0 0]
  have e1 : (w.alloc (.cells #[.int .i64 e, .slice a n c] 24)).heap.size = w.heap.size + 1 := by simp
  have e2 : ((w.alloc (.cells #[.int .i64 e, .slice a n c] 24)).alloc (.cells #[.int .i64 0, .slice none 0 0] 24)).heap.size = w.heap.size + 2 := by simp
  rw [e1] at kr
  have c1 := kp.cell 1 rfl
  have hcl := cloneM a n c m _ (Shape.below h hB) (fun b hb => by have := hP b hb; rw [e2]; omega) hn
  rw [e2] at hcl
  have HC : Hid (Calls _ _ _ _ _) := hcl
  have HP : Hid (∀ b, P b → b < w.heap.size) := hP
  have HE2 : Hid (((w.alloc (.cells #[.int .i64 e, .slice a n c] 24)).alloc (.cells #[.int .i64 0, .slice none 0 0] 24)).heap.size = w.heap.size + 2) := e2
  clear h hs hl hcl e1 e2 hP
  go_enter Try.func39, Try.ntmps39
  go_wp2_with fail
  generalize (w.alloc (.cells #[.int .i64 e, .slice a n c] 24)).alloc (.cells #[.int .i64 0, .slice none 0 0] 24) = W at *
  refine HC.out.mono ?_
  rintro r u1 ⟨hb1, a1, cc, rfl, ho1⟩
  have hb1' : Below W.heap.size W u1 := by rw [HE2.out]; exact hb1
  have ho2 : Own (inS rowS (fun b => P b ∨ w.heap.size + 2 ≤ b)) u1 (w.heap.size + 2) 67 (.slice a1 n cc) m := ho1.wider fun b hb => .inl hb
  have HO : Hid (Mixed (fun b => P b ∨ w.heap.size + 2 ≤ b) u1 (w.heap.size + 2) 3 67 a1 n cc x 0 m) := .inl ⟨ho2, fun _ => Nat.zero_le _⟩
  have kp1 := kp.keep hb1'
  have kr1 := kr.keep hb1'
  have hB1 := hB.trans (hb1'.mono hB.size)
  clear ho1 ho2 hb1 hb1' HC c1 kp kr hB
  go_wp2
  go_loopw [11] (fun i wr => ∃ k : Nat, k ≤ n ∧ i = .int .i64 k ∧ Mixed (fun b => P b ∨ w.heap.size + 2 ≤ b) wr (w.heap.size + 2) 3 67 a1 n cc x k m ∧ Below w.heap.size w wr ∧ Box wr w.heap.size 24 #[.int .i64 e, .slice a n c] ∧ Box wr (w.heap.size + 1) 24 #[.int .i64 0, .slice none 0 0]) (fun i _ => n - (intOf i).toNat)
  case atStart => exact ⟨0, Nat.zero_le _, rfl, HO.out, hB1, kp1, kr1⟩
  case round =>
    clear HO hB1 kp1 kr1
    obtain ⟨k, hk, rfl, hmix, hbel, kp, kr⟩ := hrel
    by_cases hlt : k < n
    · obtain ⟨G, A, C, rfl, hBG, hc, hr⟩ := hmix.at hlt (fun b hb => .inr hb)
      have hli : (k : Int) < (n : Int) := by omega
      have hk0 : (0 : Int) ≤ (k : Int) := by omega
      have hq : (m.getD k []).length ≤ 1000 := HS.out.2 _ (Mx.getD_mem m k (by have := HL.out; omega))
      have HC : Hid (Calls _ _ _ _ _) := clone A _ C _ wr (Shape.any hr) hq
      obtain ⟨q, hqq⟩ : ∃ q, (m.getD k []).length = q := ⟨_, rfl⟩
      have HQ : Hid ((m.getD k []).length = q) := hqq
      rw [hqq] at hc HC
      clear hr hq hqq
      go_wp2_with (go_at_call 54; refine HC.out.mono ?_; rintro r u2 ⟨hb2, a2, c2, rfl, ho2⟩; obtain ⟨⟨z0, x0⟩, f0, hst⟩ := hmix.stepG hlt hb2 HQ.out ho2 (fun b hb => .inr hb))
      have HST : Hid _ := And.intro hst (And.intro (bel_put (i := k) (bel_then hbel hb2) (by omega : w.heap.size ≤ G) (.slice a2 q c2)) (And.intro ((kp.keep hb2).other (i := k) (b2 := G) (.slice a2 q c2) (by omega)) ((kr.keep hb2).other (i := k) (b2 := G) (.slice a2 q c2) (by omega))))
      clear hst x0 f0 ho2 hb2 hmix kp kr hbel HC hc
      go_roundw
      case rel => exact ⟨k + 1, by omega, by go_num, HST.out.1, HST.out.2.1, HST.out.2.2.1, HST.out.2.2.2⟩
      case measure => simp [intOf]; omega
    · have hkn : k = n := by omega
      subst hkn
      have hli : ¬ (k : Int) < (k : Int) := by omega
      have c0 := kp.cell 0 rfl
      have d0 := kr.cell 0 rfl
      have d1 := kr.cell 1 rfl
      have f0 := kr.free 0
      have f1 := kr.free 1
      have HM : Hid (Mixed _ _ _ _ _ _ _ _ _ _ _) := hmix.aside (grown_then (grown_set wr (w.heap.size + 1) 0 (.int .i64 e)) (grown_set _ (w.heap.size + 1) 1 (.slice a1 k cc))) (by omega) (fun h5 => h5.elim (fun h6 => by have := HP.out _ h6; omega) (fun h6 => by omega))
      clear hmix
      go_wp2
      refine ret_one Try.underlying24 Try.infoMap rfl rfl rfl (kr.all2 _ _) rfl ?_
      exact ⟨bel_all2 hbel (by omega) _ _, a1, cc, rfl, HM.out⟩

end Go.Proofs.Ytpfhjdlmjehfnaa
