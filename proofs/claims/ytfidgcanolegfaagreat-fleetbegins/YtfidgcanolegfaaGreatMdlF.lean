/- What model.Forward does when called. -/
import Derived.Test.YtfidgcanolegfaaGreatMdlC
import Derived.Test.YtfidgcanolegfaaGreatMdlE
namespace Go.Proofs.YtfidgcanolegfaaGreat
open Go.ChangeShapes Go.WideShapes Go.ChangeAt Go.RowKit

theorem Md.answers_sized {l : Ly} {ts : List (List Int)} {dim : Int} (hl : Md.LRight l dim) (ht : Md.TRight dim ts) (hd : dim ≤ 8) : ∀ v ∈ Md.answers l ts (Md.parts l ts), v.length ≤ 1000 := by
  intro v hv
  obtain ⟨p, hp, rfl⟩ := List.mem_map.1 hv
  obtain ⟨h0, h1, h2, h3⟩ := Md.part_fits hp
  have h4 := (ht.row (t := p.1.toNat) (by omega)).1
  rw [Md.ans_len hl h4 h2 h3]
  omega
theorem Md.parts_len (l : Ly) (ts : List (List Int)) : (Md.parts l ts).length ≤ ts.length * 2 := Md.upto_len _ _ _
theorem Md.tright_sized {ts : List (List Int)} {dim : Int} (ht : Md.TRight dim ts) (hd : dim ≤ 8) : Ex.Sized ts := Md.right_sized ht.2.2 (by have := ht.2.1; omega) (by omega)

set_option maxRecDepth 100000 in
theorem mforward_no (a : Option Addr) (n c : Nat) (ls : List Ly) (dim : Int) (b : Option Addr) (m d : Nat) (ts : List (List Int)) (w : World) (h : lysS.rep w everywhere [.slice a n c] ls) (ht : matS.rep w everywhere [.slice b m d] ts) (hn : n ≤ 1000) (hz : ∀ l ∈ ls, Md.LSized l) (hzt : Ex.Sized ts) (hno : ¬ (Md.Right dim ls ∧ Md.TRight dim ts)) :
    Calls Tryz.prog 68 #[.agg #[.int .i64 dim, .slice a n c], .slice b m d] w fun e w' => e = .returned (.tuple #[.slice none 0 0, .int .i64 1]) ∧ Below w.heap.size w w' := by
  have hB := new_bel w (.cells #[.int .i64 dim, .slice a n c] 24)
  have q := Box.new w 24 #[.int .i64 dim, .slice a n c]
  have HC : Hid (Calls _ _ _ _ _) := mright a n c ls dim _ (Shape.below h hB) hn hz
  have ht1 := Shape.below ht hB
  clear h ht hz
  go_enter Tryz.func68, Tryz.ntmps68
  go_wp2_with fail
  refine HC.out.mono ?_
  rintro e u1 ⟨hs, hb1⟩
  have hB1 := bel_then hB hb1
  by_cases hR : Md.Right dim ls
  case neg =>
    rw [hs.not hR]
    clear hs hR hno
    go_wp2
    go_ret2
    exact ⟨rfl, hB1⟩
  have hT : ¬ Md.TRight dim ts := fun h => hno ⟨hR, h⟩
  rw [hs.is hR]
  have q1 := q.keep hb1
  have p0 := q1.cell 0 rfl
  have p1 := q1.cell 1 rfl
  have HC2 : Hid (Calls _ _ _ _ _) := mtokens a n c dim b m d ts u1 (Shape.below ht1 hb1) hzt
  clear hs hR hno ht1 hb1 q q1
  go_wp2_with fail
  refine HC2.out.mono ?_
  rintro e u2 ⟨hs, hb2⟩
  have hB2 := bel_then hB1 hb2
  rw [hs.not hT]
  clear hs hT p0 p1
  go_wp2
  go_ret2
  exact ⟨rfl, hB2⟩

set_option maxRecDepth 100000 in
set_option maxHeartbeats 2000000 in
theorem mforward (a : Option Addr) (n c : Nat) (ls : List Ly) (dim : Int) (b : Option Addr) (m d : Nat) (ts : List (List Int)) (w : World) (h : lysS.rep w everywhere [.slice a n c] ls) (ht : matS.rep w everywhere [.slice b m d] ts) (hR : Md.Right dim ls) (hT : Md.TRight dim ts) :
    Calls Tryz.prog 68 #[.agg #[.int .i64 dim, .slice a n c], .slice b m d] w fun e w' => Below w.heap.size w w' ∧ ∃ a' c', e = .returned (.tuple #[.slice a' m c', .int .i64 0]) ∧ matS.rep w' everywhere [.slice a' m c'] (Md.forward ls ts) := by
  have hl := (sliceS_len h).1
  have hlt0 := (sliceS_len ht).1
  have hB := new_bel w (.cells #[.int .i64 dim, .slice a n c] 24)
  have q := Box.new w 24 #[.int .i64 dim, .slice a n c]
  have hn : n ≤ 4 := by have := hR.2.2.2.1; omega
  have hd8 : dim ≤ 8 := hR.2.1
  have HZ : Hid (∀ l ∈ ls, Md.LRight l dim) := hR.2.2.2.2
  have HC : Hid (Calls _ _ _ _ _) := mright a n c ls dim _ (Shape.below h hB) (by omega) (fun l hl => Md.right_lsized (hR.2.2.2.2 l hl) hd8)
  have hzt := Md.tright_sized hT hd8
  have HL : Hid (ls.length = n) := hl
  have HLT : Hid (ts.length = m) := hlt0
  have hm : m ≤ 16 := by have := hT.2.1; omega
  have HX : Hid (lysS.rep w everywhere [.slice a n c] ls) := h
  have HT : Hid (matS.rep w everywhere [.slice b m d] ts) := ht
  have HTR : Hid (Md.TRight dim ts) := hT
  have HR : Hid (Md.Right dim ls) := hR
  have HD : Hid (dim ≤ 8) := hd8
  clear h ht hl hlt0 hR hT hd8
  go_enter Tryz.func68, Tryz.ntmps68
  go_wp2_with fail
  refine HC.out.mono ?_
  rintro e u1 ⟨hs, hb1⟩
  have hB1 := bel_then hB hb1
  rw [hs.is HR.out]
  have q1 := q.keep hb1
  have p0 := q1.cell 0 rfl
  have p1 := q1.cell 1 rfl
  have HC2 : Hid (Calls _ _ _ _ _) := mtokens a n c dim b m d ts u1 (Shape.below HT.out hB1) hzt
  clear hs hb1 q hB HC hzt
  go_wp2_with fail
  refine HC2.out.mono ?_
  rintro e u2 ⟨hs, hb2⟩
  have hB2 := bel_then hB1 hb2
  rw [hs.is HTR.out]
  have q2 := q1.keep hb2
  clear p0 p1
  have p0 := q2.cell 0 rfl
  have p1 := q2.cell 1 rfl
  clear hs hb2 hB1 q1 HC2
  go_wp2
  go_loopw [1, 21] (fun v i wr => ∃ (k : Nat) (a' : Option Addr) (c' : Nat), k ≤ n ∧ v = .slice a' m c' ∧ i = .int .i64 k ∧ matS.rep wr everywhere [.slice a' m c'] (Md.forward (ls.take k) ts) ∧ Below w.heap.size w wr) (fun _ i _ => n - (intOf i).toNat)
  case atStart => exact ⟨0, b, d, Nat.zero_le _, rfl, rfl, by rw [List.take_zero]; exact Shape.below HT.out hB2, hB2⟩
  case round =>
    clear hB2 p0 p1 q2
    obtain ⟨k, a', c', hk, rfl, rfl, htk, hbel⟩ := hrel
    by_cases hlt : k < n
    · obtain ⟨b1, off, ag, ng, cg, ax, nx, cx, g, xs, cap, rfl, hb, hE, hg, hx, c0, c1, c2⟩ := ly_there HX.out hlt
      have hli : (k : Int) < (n : Int) := by omega
      have hk0 : (0 : Int) ≤ (k : Int) := by omega
      have hkl : k < ls.length := by have := HL.out; omega
      have hLR : Md.LRight (g, xs, cap, ()) dim := by rw [← hE]; exact HZ.out _ (in_of hkl ly0)
      have hTR : Md.TRight dim (Md.forward (ls.take k) ts) := Md.forward_right (fun l hl => HZ.out l (List.mem_of_mem_take hl)) HTR.out
      have HN : Hid (Md.forward (ls.take (k + 1)) ts = Md.step (g, xs, cap, ()) (Md.forward (ls.take k) ts)) := by show _ = _; rw [Md.forward_next hkl, hE]
      have d0 := (hbel.cell (by exact hb)).trans c0
      have d1 := (hbel.cell (by exact hb)).trans c1
      have d2 := (hbel.cell (by exact hb)).trans c2
      have hbn := new_bel wr (.cells #[.slice ag ng cg, .slice ax nx cx, .int .i64 cap] 65)
      have kb := Box.new wr 65 #[.slice ag ng cg, .slice ax nx cx, .int .i64 cap]
      have hbelA := bel_then hbel hbn
      have htA := Shape.below htk hbn
      generalize Md.forward (ls.take k) ts = T at *
      have hTl : T.length = m := (sliceS_len htk).1
      have HC : Hid (Calls _ _ _ _ _) := mparts ag ng cg ax nx cx g xs cap dim a' m c' T _ (Shape.below hg hbelA) (Shape.below hx hbelA) htA hLR HD.out hTR
      have HLR : Hid (Md.LRight (g, xs, cap, ()) dim ∧ Md.TRight dim T) := ⟨hLR, hTR⟩
      have HXX : Hid (xpsS.rep w everywhere [.slice ax nx cx] xs) := hx
      have HTl : Hid (T.length = m) := hTl
      clear hE hg hx c0 c1 c2 hLR hTR htk hbel hbn hTl
      go_wp2_with fail
      refine HC.out.mono ?_
      rintro e u3 ⟨hb3, pa, pn, pc, rfl, hps⟩
      have kb3 := kb.keep hb3
      have hB3 := bel_then hbelA hb3
      have ht3 := Shape.below htA hb3
      have y1 := kb3.cell 1 rfl
      have hpl := (sliceS_len hps).1
      have hpn : pn ≤ 32 := by have := Md.parts_len (g, xs, cap, ()) T; have := HTl.out; omega
      have HC2 : Hid (Calls _ _ _ _ _) := mrun ax nx cx xs pa pn pc _ a' m c' T g cap dim u3 (Shape.below HXX.out hB3) hps ht3 HLR.out.1 HD.out HLR.out.2 (fun p hp => Md.part_fits hp) (by omega)
      clear HC hbelA htA kb hb3 hpl d0 d1 d2
      go_wp2_with fail
      refine HC2.out.mono ?_
      rintro e u4 ⟨hb4, ra, rc, rfl, hrs⟩
      have hB4 := bel_then hB3 hb4
      have HC3 : Hid (Calls _ _ _ _ _) := mcombine a' m c' T pa pn pc _ ra pn rc _ u4 (Shape.below ht3 hb4) (Shape.below hps hb4) hrs (by omega) (by omega) (fun v hv => by have := (Md.tright_sized HLR.out.2 HD.out).2 v hv; have h7 := (HLR.out.2.2.2.2 v hv).1; have := HD.out; omega) (Md.answers_sized HLR.out.1 HLR.out.2 HD.out)
      clear HC2 hB3 ht3 hps hrs hb4 y1 kb3
      go_wp2_with fail
      refine HC3.out.mono ?_
      rintro e u5 ⟨hb5, sa, sc, rfl, hss⟩
      rw [Md.combine_step HLR.out.1 HLR.out.2, ← HN.out] at hss
      have HR5 : Hid _ := And.intro hss (bel_then hB4 hb5)
      clear hss hB4 hb5 HC3
      go_wp2
      go_roundw
      case rel => exact ⟨k + 1, sa, sc, by omega, rfl, by go_num, HR5.out.1, HR5.out.2⟩
      case measure => simp [intOf]; omega
    · have hkn : k = n := by omega
      subst hkn
      have hli : ¬ (k : Int) < (k : Int) := by omega
      rw [List.take_of_length_le (by have := HL.out; omega)] at htk
      have HR5 : Hid _ := And.intro hbel htk
      clear htk hbel
      go_wp2
      go_ret2
      exact ⟨HR5.out.1, _, _, rfl, HR5.out.2⟩

end Go.Proofs.YtfidgcanolegfaaGreat
