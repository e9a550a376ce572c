/- What the helpers of layer 22's laws do when called: ref, plain, small. -/
import Derived.Test.YtpfhjdlmjehfnaaMvA
import Derived.Test.YtpfhjdlmjehfnaaLits
namespace Go.Proofs.Ytpfhjdlmjehfnaa
open Go.ChangeShapes Go.WideShapes Go.ChangeAt Go.RowKit


theorem Box.at {u : World} {g : Nat} (t : TypeId) (cs : Array Value) (hg : u.heap.size = g) : Box (u.alloc (.cells cs t)) g t cs := hg ▸ Box.new u t cs
theorem Box.two (u : World) (o : Obj) (t : TypeId) (cs : Array Value) : Box ((u.alloc o).alloc (.cells cs t)) (u.heap.size + 1) t cs := Box.at t cs (by simp)
theorem Box.past {u : World} {b : Nat} {t : TypeId} {cs : Array Value} (h : Box u b t cs) (o : Obj) : Box (u.alloc o) b t cs := h.keep (new_bel u o)
theorem rep_new {α : Type} {A : Shape α} {w : World} {F : Nat → Prop} {cs : List Value} {x : α} (h : A.rep w F cs x) (o : Obj) : A.rep (w.alloc o) F cs x := Shape.below h (new_bel w o)
theorem rep_name {α : Type} {A : Shape α} {w : World} {F : Nat → Prop} {cs : List Value} {x : α} (h : A.rep w F cs x) : ∃ F9 : Nat → Prop, F9 = F ∧ A.rep w F9 cs x := ⟨F, rfl, h⟩
theorem rep_low {α : Type} {A : Shape α} {w : World} {F : Nat → Prop} {cs : List Value} {x : α} (h : A.rep w F cs x) : A.rep w (fun b => F b ∧ b < w.heap.size) cs x := A.mono h fun _ hb hlt => ⟨hb, hlt⟩
theorem Mq.num_few {n z : Nat} (hz : 1 ≤ z) (h : n ≤ 1000) : Ck.num n z ≤ 1000 := by
  rcases Nat.lt_or_ge 1000 (Ck.num n z) with h9 | h9
  · have h8 := (Ck.num_lt (n := n) (size := z) (by omega)).1 h9
    have := Nat.mul_le_mul_left 1000 hz
    omega
  · exact h9
theorem Pl.small_brief {m : List (List Int)} (h : Mx.Small m) : Pl.Short m := ⟨by have := h.1; omega, fun l hl => by have := h.2 l hl; omega⟩
theorem Pl.right_brief {e : Int} {m : List (List Int)} (h : Pl.Right e m) : Pl.Short m := ⟨by have := h.2.1; omega, fun l hl => by have := Pl.right_sized h l hl; omega⟩
set_option maxRecDepth 100000 in
theorem mref (x f t p s : Int) (ha : Option Addr) (hn hc : Nat) (ga : Option Addr) (gn gc : Nat) (w : World) :
    Calls Try.prog 15 #[.agg #[.int .i64 x, .int .i64 f, .int .i64 t, .int .i64 p, .int .i64 s, .slice ha hn hc, .slice ga gn gc]] w fun r w' => r = .returned (.agg #[.int .i64 x, .int .i64 f, .int .i64 t, .int .i64 p, .int .i64 s, .slice ha hn hc, .slice ga gn gc]) ∧ Below w.heap.size w w' := by
  have hB := bel_two w (.cells #[.int .i64 x, .int .i64 f, .int .i64 t, .int .i64 p, .int .i64 s, .slice ha hn hc, .slice ga gn gc] 30) (.cells #[.int .i64 0, .int .i64 0, .int .i64 0, .int .i64 0, .int .i64 0, .slice none 0 0, .slice none 0 0] 34)
  have kp := (Box.new w 30 #[.int .i64 x, .int .i64 f, .int .i64 t, .int .i64 p, .int .i64 s, .slice ha hn hc, .slice ga gn gc]).keep (new_bel _ (.cells #[.int .i64 0, .int .i64 0, .int .i64 0, .int .i64 0, .int .i64 0, .slice none 0 0, .slice none 0 0] 34))
  have kr := Box.new (w.alloc (.cells #[.int .i64 x, .int .i64 f, .int .i64 t, .int .i64 p, .int .i64 s, .slice ha hn hc, .slice ga gn gc] 30)) 34 #[.int .i64 0, .int .i64 0, .int .i64 0, .int .i64 0, .int .i64 0, .slice none 0 0, .slice none 0 0]
  have e1 : (w.alloc (.cells #[.int .i64 x, .int .i64 f, .int .i64 t, .int .i64 p, .int .i64 s, .slice ha hn hc, .slice ga gn gc] 30)).heap.size = w.heap.size + 1 := by simp
  rw [e1] at kr
  clear e1
  go_enter Try.func15, Try.ntmps15
  go_upto_region 1 with fail
  generalize (w.alloc (.cells #[.int .i64 x, .int .i64 f, .int .i64 t, .int .i64 p, .int .i64 s, .slice ha hn hc, .slice ga gn gc] 30)).alloc (.cells #[.int .i64 0, .int .i64 0, .int .i64 0, .int .i64 0, .int .i64 0, .slice none 0 0, .slice none 0 0] 34) = W at *
  have c0 := kp.cell 0 rfl; have c1 := kp.cell 1 rfl; have c2 := kp.cell 2 rfl; have c3 := kp.cell 3 rfl; have c4 := kp.cell 4 rfl; have c5 := kp.cell 5 rfl; have c6 := kp.cell 6 rfl
  have d0 := kr.cell 0 rfl; have d1 := kr.cell 1 rfl; have d2 := kr.cell 2 rfl; have d3 := kr.cell 3 rfl; have d4 := kr.cell 4 rfl; have d5 := kr.cell 5 rfl; have d6 := kr.cell 6 rfl
  have f0 := kr.free 0; have f1 := kr.free 1; have f2 := kr.free 2; have f3 := kr.free 3; have f4 := kr.free 4; have f5 := kr.free 5; have f6 := kr.free 6
  go_wp2
  refine ret_one Try.underlying34 Try.infoMoveR rfl rfl rfl (kr.all7 _ _ _ _ _ _ _) rfl ?_
  exact ⟨rfl, bel_all7 hB (by omega) _ _ _ _ _ _ _⟩


theorem rep_litF {α : Type} {A : Shape α} {w : World} {F : Nat → Prop} (css : List (List Value)) (xs : List α) (e : TypeId) (h : A.all w F css xs) (hF : F w.heap.size) (hm : xs.length ≤ maxLen) :
    (sliceS A).rep (w.alloc (.cells css.flatten.toArray e)) F [.slice (some ⟨w.heap.size, 0, none⟩) xs.length xs.length] xs := by
  refine ⟨_, _, css, rfl, Nat.le_refl _, hm, Shape.all_keep h fun b _ hlt => Below.heap_alloc w _ b hlt, .inr ⟨w.heap.size, 0, rfl, hF, by simp, fun j v hv => ?_⟩⟩
  rw [cell_of_row _ w.heap.size (0 + j) css.flatten.toArray e (0, 0) (heap_alloc_new w _)]
  simpa using hv
theorem row_oneF (w : World) (p : Int) {B : Nat} (hB : B ≤ w.heap.size) : rowS.rep (w.alloc (.cells #[.int .i64 p] 3)) (B ≤ ·) [.slice (some ⟨w.heap.size, 0, none⟩) 1 1] [p] :=
  rep_litF (A := intS .i64) [[.int .i64 p]] [p] 3 (Shape.all_one rfl) hB (by simp [maxLen])
theorem rows_oneF {w : World} {B : Nat} {a : Option Addr} {n c : Nat} {l : List Int} (h : rowS.rep w (B ≤ ·) [.slice a n c] l) (hB : B ≤ w.heap.size) : matS.rep (w.alloc (.cells #[.slice a n c] 67)) (B ≤ ·) [.slice (some ⟨w.heap.size, 0, none⟩) 1 1] [l] :=
  rep_litF [[.slice a n c]] [l] 67 (Shape.all_one h) hB (by simp [maxLen])
theorem mat_oneF (w : World) (p : Int) {B : Nat} (hB : B ≤ w.heap.size) : matS.rep ((w.alloc (.cells #[.int .i64 p] 3)).alloc (.cells #[.slice (some ⟨w.heap.size, 0, none⟩) 1 1] 67)) (B ≤ ·) [.slice (some ⟨w.heap.size + 1, 0, none⟩) 1 1] [[p]] := by
  have h := rows_oneF (row_oneF w p hB) (by simp; omega)
  rw [show (w.alloc (.cells #[.int .i64 p] 3)).heap.size = w.heap.size + 1 by simp] at h
  exact h

set_option maxRecDepth 100000 in
theorem mplain (w : World) : Calls Try.prog 26 #[] w fun r w' => Below w.heap.size w w' ∧ ∃ a, r = .returned (.agg #[.int .i64 0, .slice a 1 1]) ∧ matS.rep w' (w.heap.size ≤ ·) [.slice a 1 1] [[1]] := by
  have hb := new_bel w (.cells #[.int .i64 0, .slice none 0 0] 24)
  have kr := Box.new w 24 #[.int .i64 0, .slice none 0 0]
  have es : (w.alloc (.cells #[.int .i64 0, .slice none 0 0] 24)).heap.size = w.heap.size + 1 := by simp
  go_enter Try.func26, Try.ntmps26
  go_upto_region 1 with fail
  generalize w.alloc (.cells #[.int .i64 0, .slice none 0 0] 24) = W at *
  have HE := hidL es
  clear es
  have hm : matS.rep _ (W.heap.size ≤ ·) _ [[1]] := mat_oneF W 1 (Nat.le_refl _)
  have hb2 := bel_then hb (bel_two W (.cells #[.int .i64 1] 3) (.cells #[.slice (some ⟨W.heap.size, 0, none⟩) 1 1] 67))
  have kr2 := kr.keep (bel_two W (.cells #[.int .i64 1] 3) (.cells #[.slice (some ⟨W.heap.size, 0, none⟩) 1 1] 67))
  have d0 := kr2.cell 0 rfl; have d1 := kr2.cell 1 rfl
  have f0 := kr2.free 0; have f1 := kr2.free 1
  go_wp2
  have es := HE.out
  refine ret_one Try.underlying24 Try.infoMap rfl rfl rfl (kr2.all2 _ _) rfl ?_
  exact ⟨bel_all2 hb2 (Nat.le_refl _) _ _, _, rfl, matS.mono (Shape.all2 hm (fun k hk _ => by have h9 : W.heap.size ≤ k := hk; omega) _ _) fun b hb _ => by have h9 : W.heap.size ≤ b := hb; show w.heap.size ≤ b; omega⟩

/-- Short enough, as the laws ask it. -/
def Mq.Few (H : List Bool) (G : List ByteArray) : Prop := H.length ≤ 60 ∧ G.length ≤ 60 ∧ ∀ x ∈ G, x.size ≤ 100
theorem Mq.Few.short {H : List Bool} {G : List ByteArray} (h : Mq.Few H G) : Mq.Short H G := ⟨by have := h.1; omega, by have := h.2.1; omega, h.2.2⟩

def Mq.Tells (r : Ending) (H : List Bool) (G : List ByteArray) : Prop := ∃ b, r = .returned (.bool b) ∧ (b = true → Mq.Few H G)

set_option maxRecDepth 100000 in
set_option maxHeartbeats 1000000 in
theorem msmall (x f t p s : Int) (ha : Option Addr) (hn hc : Nat) (ga : Option Addr) (gn gc : Nat) (H : List Bool) (G : List ByteArray) (w : World) (hH : bitsS.rep w everywhere [.slice ha hn hc] H) (hG : bagS.rep w everywhere [.slice ga gn gc] G) :
    Calls Try.prog 17 #[.agg #[.int .i64 x, .int .i64 f, .int .i64 t, .int .i64 p, .int .i64 s, .slice ha hn hc, .slice ga gn gc]] w fun r w' => Mq.Tells r H G ∧ Below w.heap.size w w' := by
  have hB := new_bel w (.cells #[.int .i64 x, .int .i64 f, .int .i64 t, .int .i64 p, .int .i64 s, .slice ha hn hc, .slice ga gn gc] 30)
  have kp := Box.new w 30 #[.int .i64 x, .int .i64 f, .int .i64 t, .int .i64 p, .int .i64 s, .slice ha hn hc, .slice ga gn gc]
  have HGW : Hid (∀ u, Below w.heap.size w u → bagS.rep u everywhere [.slice ga gn gc] G) := fun u hu => Shape.below hG hu
  have HLH : Hid (H.length = hn) := (sliceS_len hH).1
  have HLG : Hid (G.length = gn) := (sliceS_len hG).1
  have hgl : gn ≤ 9223372036854775807 := Nat.le_trans (sliceS_len hG).2.1 (sliceS_len hG).2.2
  clear hH hG
  go_enter Try.func17, Try.ntmps17
  go_upto_region 1 with fail
  generalize w.alloc (.cells #[.int .i64 x, .int .i64 f, .int .i64 t, .int .i64 p, .int .i64 s, .slice ha hn hc, .slice ga gn gc] 30) = W at *
  have c5 := kp.cell 5 rfl
  have c6 := kp.cell 6 rfl
  go_wp2
  go_loopw [8] (fun i wr => ∃ k : Nat, k ≤ gn ∧ i = .int .i64 k ∧ Hid (∀ j, j < k → j < 60 → (G.getD j noText).size ≤ 100) ∧ wr = W) (fun i _ => gn - (intOf i).toNat)
  case atStart => exact ⟨0, Nat.zero_le _, rfl, fun j hj => absurd hj (Nat.not_lt_zero _), rfl⟩
  case round =>
    obtain ⟨k, hk, rfl, HJ, hww⟩ := hrel
    replace hww := hww.symm
    subst hww
    by_cases hlt : k < gn
    · obtain ⟨b1, o1, rfl, _, hc⟩ := (Texts.of_rep (HGW.out _ hB)).at hlt
      have hli : (k : Int) < (gn : Int) := by omega
      have hk0 : (0 : Int) ≤ (k : Int) := by omega
      obtain ⟨z, hz⟩ : ∃ z, G.getD k noText = z := ⟨_, rfl⟩
      rw [hz] at hc
      have HZ := hidL hz
      clear hz
      by_cases h60 : k < 60
      · have h60i : (k : Int) < 60 := by omega
        by_cases hsz : 100 < z.size
        · have hszi : (100 : Int) < (z.size : Int) := by omega
          go_wp2
          go_ret
          exact ⟨⟨false, rfl, fun h => by cases h⟩, hB⟩
        · have hszi : ¬ (100 : Int) < (z.size : Int) := by omega
          have HS := hidL hsz
          clear hsz
          go_wp2
          go_roundw
          case rel => exact ⟨k + 1, by omega, by go_num, fun j hj h6 => (Nat.lt_succ_iff_lt_or_eq.1 hj).elim (fun h => HJ.out j h h6) (fun h => by rw [h, HZ.out]; have := HS.out; omega), (by trivial)⟩
          case measure => simp [intOf]; omega
      · have h60i : ¬ (k : Int) < 60 := by omega
        go_wp2
        go_roundw
        case rel => exact ⟨k + 1, by omega, by go_num, fun j hj h6 => HJ.out j (by omega) h6, (by trivial)⟩
        case measure => simp [intOf]; omega
    · have hkn : k = gn := by omega
      subst hkn
      have hli : ¬ (k : Int) < (k : Int) := by omega
      by_cases hg : k ≤ 60
      · have hgi : (k : Int) ≤ 60 := by omega
        by_cases hh : hn ≤ 60
        · have hhi : (hn : Int) ≤ 60 := by omega
          have HF : Hid (Mq.Few H G) := ⟨by rw [HLH.out]; exact hh, by rw [HLG.out]; exact hg, fun z hz => by
            obtain ⟨j, hj, rfl⟩ := List.mem_iff_getElem.1 hz
            have h9 := HJ.out j (by rw [← HLG.out]; exact hj) (by have := HLG.out; omega)
            rwa [List.getD_eq_getElem?_getD, List.getElem?_eq_getElem hj] at h9⟩
          go_wp2
          go_ret
          exact ⟨⟨true, rfl, fun _ => HF.out⟩, hB⟩
        · have hhi : ¬ (hn : Int) ≤ 60 := by omega
          go_wp2
          go_ret
          exact ⟨⟨false, rfl, fun h => by cases h⟩, hB⟩
      · have hgi : ¬ (k : Int) ≤ 60 := by omega
        go_wp2
        go_ret
        exact ⟨⟨false, rfl, fun h => by cases h⟩, hB⟩

end Go.Proofs.Ytpfhjdlmjehfnaa
