/- What load's Hot and Cold do when called. -/
import Derived.Test.YtpldfalnoaamkaaLdG
namespace Go.Proofs.Ytpldfalnoaamkaa
open Go.ChangeShapes Go.WideShapes Go.ChangeAt Go.RowKit

theorem Ld.free_row {r : List Int} (h : Pl.RowOk r) : (∃ k, Ld.Free r k) ↔ r.length ≠ 4 := by
  have h4 : ∀ l ∈ Pl.rows, l.length = 4 → ((1 : Int) ∈ l ∧ (2 : Int) ∈ l ∧ (3 : Int) ∈ l ∧ (4 : Int) ∈ l) := by decide
  have h3 : ∀ l ∈ Pl.rows, l.length ≠ 4 → ((1 : Int) ∉ l ∨ (2 : Int) ∉ l ∨ (3 : Int) ∉ l ∨ (4 : Int) ∉ l) := by decide
  have hr := Pl.row_there h
  constructor
  · rintro ⟨k, hk⟩ hl
    have h9 := h4 r hr hl
    have hk1 := hk.1
    have h5 : k = 1 ∨ k = 2 ∨ k = 3 ∨ k = 4 := by omega
    rcases h5 with rfl | rfl | rfl | rfl
    · exact hk.2 h9.1
    · exact hk.2 h9.2.1
    · exact hk.2 h9.2.2.1
    · exact hk.2 h9.2.2.2
  · intro hl
    rcases h3 r hr hl with h9 | h9 | h9 | h9
    · exact ⟨1, ⟨by omega, by omega⟩, h9⟩
    · exact ⟨2, ⟨by omega, by omega⟩, h9⟩
    · exact ⟨3, ⟨by omega, by omega⟩, h9⟩
    · exact ⟨4, ⟨by omega, by omega⟩, h9⟩

/-- The first of the best among those below k; -1: there is none. -/
def Ld.Best (P : Nat → Prop) (f : Nat → Int) (k : Nat) (H : Int) : Prop := (H = -1 ∧ ∀ y, P y → ¬ y < k) ∨ ∃ x : Nat, H = (x : Int) ∧ Ld.FirstTo P f k x
section
variable {P : Nat → Prop} {f : Nat → Int} {k x : Nat} {H : Int}
theorem Ld.Best.start : Ld.Best P f 0 (-1) := .inl ⟨rfl, fun _ _ h => absurd h (Nat.not_lt_zero _)⟩
theorem Ld.Best.skip (h : Ld.Best P f k H) (hn : ¬ P k) : Ld.Best P f (k + 1) H := by
  rcases h with ⟨h1, h2⟩ | ⟨x, h1, h2⟩
  · exact .inl ⟨h1, Ld.none_step h2 hn⟩
  · exact .inr ⟨x, h1, h2.keep (.inl hn)⟩
theorem Ld.Best.first (h : Ld.Best P f k (-1)) (hp : P k) : Ld.Best P f (k + 1) (k : Int) := by
  rcases h with ⟨_, h2⟩ | ⟨x, h1, _⟩
  · exact .inr ⟨k, rfl, Ld.first_begin h2 hp⟩
  · omega
theorem Ld.Best.is (h : Ld.Best P f k (x : Int)) : Ld.FirstTo P f k x := by
  rcases h with ⟨h1, _⟩ | ⟨y, h1, h2⟩
  · omega
  · obtain rfl : x = y := by omega
    exact h2
theorem Ld.Best.turn (h : Ld.Best P f k (x : Int)) (hp : P k) (hf : f x < f k) : Ld.Best P f (k + 1) (k : Int) := .inr ⟨k, rfl, h.is.turn hp hf⟩
theorem Ld.Best.stay (h : Ld.Best P f k (x : Int)) (hf : f k ≤ f x) : Ld.Best P f (k + 1) (x : Int) := .inr ⟨x, rfl, h.is.keep (.inr hf)⟩
theorem Ld.Best.none (h : Ld.Best P f k (-1)) (hb : ∀ y, P y → y < k) (y : Nat) : ¬ P y := by
  rcases h with ⟨_, h2⟩ | ⟨x, h1, _⟩
  · exact fun hp => h2 y hp (hb y hp)
  · omega
theorem Ld.Best.ways (h : Ld.Best P f k H) : H = -1 ∨ ∃ x : Nat, H = (x : Int) ∧ P x ∧ x < k := by
  rcases h with ⟨h1, _⟩ | ⟨x, h1, h2⟩
  · exact .inl h1
  · exact .inr ⟨x, h1, h2.1.1, h2.1.2⟩
end

set_option maxRecDepth 100000 in
set_option maxHeartbeats 4000000 in
theorem lHot (b0 : Option Addr) (n0 c0 : Nat) (l : List Int) (e : Int) (a : Option Addr) (n c : Nat) (m : List (List Int)) (bd X N : Int) (B : Bool) (w : World) (hr : Row .i64 w b0 n0 l) (hn0 : n0 ≤ 100000) (h : matS.rep w everywhere [.slice a n c] m) (hz : Ex.Sized m) (hI : Ld.Hot l e m bd X N B) :
    Calls Try.prog 18 #[.slice b0 n0 c0, .agg #[.int .i64 e, .slice a n c], .int .i64 bd] w fun r w' => r = .returned (.tuple #[.int .i64 X, .int .i64 N, .bool B]) ∧ Below w.heap.size w w' := by
  have HLI : Hid (∀ (x : Nat) (u : World), x < n → Below w.heap.size w u → Ld.Node m (m.getD x []) N → Calls Try.prog 30 #[.agg #[.int .i64 e, .slice a n c], .int .i64 x] u fun r w' => r = .returned (.int .i64 N) ∧ Below u.heap.size u w') := fun x u hx hu hN => llightest e a n c m x N u (Shape.below h hu) hz hx hN
  have HL : Hid (m.length = n) := (sliceS_len h).1
  have HA : Hid (matS.rep w (· < w.heap.size) [.slice a n c] m) := Shape.low h
  have hbn := new_bel w (.cells #[.int .i64 e, .slice a n c] 25)
  have kb := Box.new w 25 #[.int .i64 e, .slice a n c]
  have HRI : Hid (Calls _ _ _ _ _) := pright e a n c m _ (Shape.below h hbn) hz
  have HI := hidL hI
  have hn : n ≤ 100000 := by have := hz.1; have := HL.out; omega
  have HZ : Hid (Ex.Sized m) := hz
  have HCT : Hid (∀ (y : Nat) (v : Int) (u : World), Ld.count l (y : Int) = v → Below w.heap.size w u → Calls Try.prog 15 #[.slice b0 n0 c0, .int .i64 y] u fun r w' => r = .returned (.int .i64 v) ∧ w' = u) := fun y v u hv hu => by rw [← hv]; exact lcount b0 n0 c0 l y u (hr.keep hu) hn0
  obtain ⟨bd0, hbd0⟩ : ∃ bd0 : Bool, bd0 = true ↔ 1 ≤ bd ∧ bd ≤ 2147483647 := ⟨decide (1 ≤ bd ∧ bd ≤ 2147483647), by simp⟩
  have HBD := hidL hbd0
  have HBC : Hid (∀ u, Calls Try.prog 29 #[.int .i64 bd] u fun r w' => r = .returned (.bool bd0) ∧ w' = u) := fun u => lbound bd bd0 hbd0 u
  have c0x := kb.cell 0 rfl
  have c1x := kb.cell 1 rfl
  have KB := hidL kb
  clear h hz hI hr kb hn0 hbd0
  go_enter Try.func18, Try.ntmps18
  go_wp2_with fail
  refine HRI.out.mono ?_
  rintro r W1 ⟨⟨bb, rfl, hbb⟩, hb1⟩
  have hbel := bel_then hbn hb1
  have kb1 := KB.out.keep hb1
  clear hbn hb1 c0x c1x HRI KB
  have cc0 := kb1.cell 0 rfl
  have cc1 := kb1.cell 1 rfl
  cases bb with
  | false =>
    obtain ⟨rfl, rfl, rfl⟩ := HI.out.no (fun k => by have h9 := hbb.2 k.1.1; cases h9)
    go_wp2
    go_ret3
    exact ⟨rfl, hbel⟩
  | true =>
  have hR : Pl.Right e m := hbb.1 rfl
  clear hbb
  cases bd0 with
  | false =>
    obtain ⟨rfl, rfl, rfl⟩ := HI.out.no (fun k => by have h9 := HBD.out.2 k.1.2; cases h9)
    go_wp2_with fail
    refine (HBC.out _).mono ?_
    rintro r u5 ⟨rfl, h5⟩
    subst h5
    go_wp2
    go_ret3
    exact ⟨rfl, hbel⟩
  | true =>
  have HF : Hid (Ld.Fair e m bd) := ⟨hR, HBD.out.1 rfl⟩
  have hbd1 : 1 ≤ bd := HF.out.2.1
  have hbd2 : bd ≤ 2147483647 := HF.out.2.2
  clear hR
  go_wp2_with fail
  refine (HBC.out _).mono ?_
  rintro r u5 ⟨rfl, h5⟩
  subst h5
  clear HBC HBD
  go_wp2
  clear cc0 cc1
  go_loopw [9, 23] (fun v i wr => ∃ (k : Nat) (H : Int), k ≤ n ∧ v = .int .i64 H ∧ i = .int .i64 k ∧ Box wr w.heap.size 25 #[.int .i64 e, .slice a n c] ∧ Below w.heap.size w wr ∧ Hid (Ld.Best (Ld.HotAt l m bd) (fun y => Ld.count l (y : Int)) k H)) (fun _ i _ => n - (intOf i).toNat)
  case atStart => exact ⟨0, -1, Nat.zero_le _, rfl, rfl, kb1, hbel, Ld.Best.start⟩
  case round =>
    clear kb1 hbel
    obtain ⟨k, H, hk, rfl, rfl, kb, hbel, HK⟩ := hrel
    by_cases hlt : k < n
    · obtain ⟨b, off, A, C, rfl, hb, hc, hrow⟩ := mat_at (Shape.now HA.out hbel) hlt
      have hki : (k : Int) < (n : Int) := by omega
      have hk0 : (0 : Int) ≤ (k : Int) := by omega
      have hkm : k < m.length := by have := HL.out; omega
      have hro : Pl.RowOk (m.getD k []) := HF.out.1.row hkm
      have hql := Pl.row_len hro
      obtain ⟨v, hv⟩ : ∃ v, Ld.count l (k : Int) = v := ⟨_, rfl⟩
      obtain ⟨q, hq⟩ : ∃ q, (m.getD k []).length = q := ⟨_, rfl⟩
      have hat : Ld.HotAt l m bd k ↔ bd * (q : Int) < v ∧ q ≠ 4 := by
        unfold Ld.HotAt
        rw [hv, hq, Ld.free_row hro, hq]
        exact ⟨fun h => h.2, fun h => ⟨hkm, h⟩⟩
      have HAT := hidL hat
      have HCK : Hid (Calls _ _ _ _ _) := HCT.out k v wr hv hbel
      have HV := hidL hv
      rw [hq] at hc hql
      clear hrow hro hat hv hq
      by_cases hq4 : q = 4
      · have HK2 := hidL (HK.out.skip fun h9 => (HAT.out.1 h9).2 hq4)
        subst hq4
        go_wp2
        go_roundw
        case rel => exact ⟨k + 1, H, by omega, rfl, by go_num, kb, hbel, HK2⟩
        case measure => simp [intOf]; omega
      · have e4 : ((q : Int) == 4) = false := by simp; omega
        have hp0 := Ld.prod (b := bd) (q := (q : Int)) ⟨hbd1, hbd2⟩ ⟨by omega, by omega⟩
        obtain ⟨p, hpp⟩ : ∃ p, bd * (q : Int) = p := ⟨_, rfl⟩
        have hp : IntKind.i64.wrap (bd * (q : Int)) = p := hp0.trans hpp
        have HQ4 := hidL hq4
        have HAT2 : Hid (Ld.HotAt l m bd k ↔ p < v) := by
          show _ ↔ _
          rw [HAT.out, hpp]
          exact ⟨fun h => h.1, fun h => ⟨h, HQ4.out⟩⟩
        clear hp0 hpp hq4 HAT
        by_cases hle : v ≤ p
        · have HK2 := hidL (HK.out.skip fun h9 => by have := HAT2.out.1 h9; omega)
          clear HK
          go_wp2_with fail
          refine HCK.out.mono ?_
          rintro r u5 ⟨rfl, h5⟩
          subst h5
          go_wp2
          go_roundw
          case rel => exact ⟨k + 1, H, by omega, rfl, by go_num, kb, hbel, HK2⟩
          case measure => simp [intOf]; omega
        · have HP := hidL (HAT2.out.2 (by omega))
          clear HAT2
          rcases HK.out.ways with rfl | ⟨x, rfl, hPx, hxk⟩
          · have HK2 := hidL (HK.out.first HP.out)
            clear HK HP
            go_wp2_with fail
            refine HCK.out.mono ?_
            rintro r u5 ⟨rfl, h5⟩
            subst h5
            go_wp2
            go_roundw
            case rel => exact ⟨k + 1, k, by omega, rfl, by go_num, kb, hbel, HK2⟩
            case measure => simp [intOf]; omega
          · clear hPx
            obtain ⟨v2, hv2⟩ : ∃ v2, Ld.count l (x : Int) = v2 := ⟨_, rfl⟩
            have HCX : Hid (Calls _ _ _ _ _) := HCT.out x v2 wr hv2 hbel
            have HV2 := hidL hv2
            have hx0 : ¬ (x : Int) < 0 := by omega
            clear hv2
            by_cases hcmp : v2 < v
            · have HK2 : Hid (Ld.Best _ _ (k + 1) (k : Int)) := HK.out.turn HP.out (by show Ld.count l (x : Int) < Ld.count l (k : Int); rw [HV2.out, HV.out]; omega)
              clear HK HP
              go_wp2_with fail
              refine HCK.out.mono ?_
              rintro r u5 ⟨rfl, h5⟩
              subst h5
              go_wp2_with fail
              refine HCK.out.mono ?_
              rintro r u5 ⟨rfl, h5⟩
              subst h5
              go_wp2_with fail
              refine HCX.out.mono ?_
              rintro r u5 ⟨rfl, h5⟩
              subst h5
              go_wp2
              go_roundw
              case rel => exact ⟨k + 1, k, by omega, rfl, by go_num, kb, hbel, HK2⟩
              case measure => simp [intOf]; omega
            · have HK2 : Hid (Ld.Best _ _ (k + 1) (x : Int)) := HK.out.stay (by show Ld.count l (k : Int) ≤ Ld.count l (x : Int); rw [HV2.out, HV.out]; omega)
              clear HK HP
              go_wp2_with fail
              refine HCK.out.mono ?_
              rintro r u5 ⟨rfl, h5⟩
              subst h5
              go_wp2_with fail
              refine HCK.out.mono ?_
              rintro r u5 ⟨rfl, h5⟩
              subst h5
              go_wp2_with fail
              refine HCX.out.mono ?_
              rintro r u5 ⟨rfl, h5⟩
              subst h5
              go_wp2
              go_roundw
              case rel => exact ⟨k + 1, x, by omega, rfl, by go_num, kb, hbel, HK2⟩
              case measure => simp [intOf]; omega
    · have hkn : k = n := by omega
      subst hkn
      have hli : ¬ (k : Int) < (k : Int) := by omega
      have cc0 := kb.cell 0 rfl
      have cc1 := kb.cell 1 rfl
      have HB : Hid (∀ y, Ld.HotAt l m bd y → y < k) := fun y hy => by have := hy.1; have := HL.out; omega
      rcases HK.out.ways with rfl | ⟨x, rfl, hPx, hxk⟩
      · obtain ⟨rfl, rfl, rfl⟩ := HI.out.no (fun k => k.2.elim fun x hx => HK.out.none HB.out x hx.1)
        go_wp2
        go_ret3
        exact ⟨rfl, hbel⟩
      · obtain ⟨rfl, hN, rfl⟩ := HI.out.at HF.out (HK.out.is.full HB.out)
        have HC : Hid (Calls _ _ _ _ _) := HLI.out x wr hxk hbel hN
        have hx0 : ¬ (x : Int) < 0 := by omega
        clear hPx hN HI HK HB HLI
        go_wp2_with fail
        refine HC.out.mono ?_
        rintro r W2 ⟨rfl, hb2⟩
        go_wp2
        go_ret3
        exact ⟨rfl, bel_then hbel hb2⟩

set_option maxRecDepth 100000 in
set_option maxHeartbeats 4000000 in
theorem lCold (b0 : Option Addr) (n0 c0 : Nat) (l : List Int) (e : Int) (a : Option Addr) (n c : Nat) (m : List (List Int)) (bd X N : Int) (B : Bool) (w : World) (hr : Row .i64 w b0 n0 l) (hn0 : n0 ≤ 100000) (h : matS.rep w everywhere [.slice a n c] m) (hz : Ex.Sized m) (hI : Ld.Cold l e m bd X N B) :
    Calls Try.prog 19 #[.slice b0 n0 c0, .agg #[.int .i64 e, .slice a n c], .int .i64 bd] w fun r w' => r = .returned (.tuple #[.int .i64 X, .int .i64 N, .bool B]) ∧ Below w.heap.size w w' := by
  have HL : Hid (m.length = n) := (sliceS_len h).1
  have HA : Hid (matS.rep w (· < w.heap.size) [.slice a n c] m) := Shape.low h
  have hbn := new_bel w (.cells #[.int .i64 e, .slice a n c] 25)
  have kb := Box.new w 25 #[.int .i64 e, .slice a n c]
  have HRI : Hid (Calls _ _ _ _ _) := pright e a n c m _ (Shape.below h hbn) hz
  have HI := hidL hI
  have hn : n ≤ 100000 := by have := hz.1; have := HL.out; omega
  have HZ : Hid (Ex.Sized m) := hz
  have HCT : Hid (∀ (y : Nat) (v : Int) (u : World), Ld.count l (y : Int) = v → Below w.heap.size w u → Calls Try.prog 15 #[.slice b0 n0 c0, .int .i64 y] u fun r w' => r = .returned (.int .i64 v) ∧ w' = u) := fun y v u hv hu => by rw [← hv]; exact lcount b0 n0 c0 l y u (hr.keep hu) hn0
  obtain ⟨bd0, hbd0⟩ : ∃ bd0 : Bool, bd0 = true ↔ 1 ≤ bd ∧ bd ≤ 2147483647 := ⟨decide (1 ≤ bd ∧ bd ≤ 2147483647), by simp⟩
  have HBD := hidL hbd0
  have HBC : Hid (∀ u, Calls Try.prog 29 #[.int .i64 bd] u fun r w' => r = .returned (.bool bd0) ∧ w' = u) := fun u => lbound bd bd0 hbd0 u
  have c0x := kb.cell 0 rfl
  have c1x := kb.cell 1 rfl
  have KB := hidL kb
  clear h hz hI hr kb hn0 hbd0
  go_enter Try.func19, Try.ntmps19
  go_wp2_with fail
  refine HRI.out.mono ?_
  rintro r W1 ⟨⟨bb, rfl, hbb⟩, hb1⟩
  have hbel := bel_then hbn hb1
  have kb1 := KB.out.keep hb1
  clear hbn hb1 c0x c1x HRI KB
  have cc0 := kb1.cell 0 rfl
  have cc1 := kb1.cell 1 rfl
  cases bb with
  | false =>
    obtain ⟨rfl, rfl, rfl⟩ := HI.out.no (fun k => by have h9 := hbb.2 k.1.1; cases h9)
    go_wp2
    go_ret3
    exact ⟨rfl, hbel⟩
  | true =>
  have hR : Pl.Right e m := hbb.1 rfl
  clear hbb
  cases bd0 with
  | false =>
    obtain ⟨rfl, rfl, rfl⟩ := HI.out.no (fun k => by have h9 := HBD.out.2 k.1.2; cases h9)
    go_wp2_with fail
    refine (HBC.out _).mono ?_
    rintro r u5 ⟨rfl, h5⟩
    subst h5
    go_wp2
    go_ret3
    exact ⟨rfl, hbel⟩
  | true =>
  have HF : Hid (Ld.Fair e m bd) := ⟨hR, HBD.out.1 rfl⟩
  have hbd1 : 1 ≤ bd := HF.out.2.1
  have hbd2 : bd ≤ 2147483647 := HF.out.2.2
  clear hR
  go_wp2_with fail
  refine (HBC.out _).mono ?_
  rintro r u5 ⟨rfl, h5⟩
  subst h5
  clear HBC HBD
  go_wp2
  clear cc0 cc1
  go_loopw [9, 24] (fun v i wr => ∃ (k : Nat) (H : Int), k ≤ n ∧ v = .int .i64 H ∧ i = .int .i64 k ∧ Box wr w.heap.size 25 #[.int .i64 e, .slice a n c] ∧ Below w.heap.size w wr ∧ Hid (Ld.Best (Ld.ColdAt l m bd) (fun y => -Ld.count l (y : Int)) k H)) (fun _ i _ => n - (intOf i).toNat)
  case atStart => exact ⟨0, -1, Nat.zero_le _, rfl, rfl, kb1, hbel, Ld.Best.start⟩
  case round =>
    clear kb1 hbel
    obtain ⟨k, H, hk, rfl, rfl, kb, hbel, HK⟩ := hrel
    by_cases hlt : k < n
    · obtain ⟨b, off, A, C, rfl, hb, hc, hrow⟩ := mat_at (Shape.now HA.out hbel) hlt
      have hki : (k : Int) < (n : Int) := by omega
      have hk0 : (0 : Int) ≤ (k : Int) := by omega
      have hkm : k < m.length := by have := HL.out; omega
      have hro : Pl.RowOk (m.getD k []) := HF.out.1.row hkm
      have hql := Pl.row_len hro
      obtain ⟨v, hv⟩ : ∃ v, Ld.count l (k : Int) = v := ⟨_, rfl⟩
      obtain ⟨q, hq⟩ : ∃ q, (m.getD k []).length = q := ⟨_, rfl⟩
      have hat : Ld.ColdAt l m bd k ↔ 1 < q ∧ v < bd * ((q : Int) - 1) := by
        unfold Ld.ColdAt
        rw [hv, hq]
        exact ⟨fun h => h.2, fun h => ⟨hkm, h⟩⟩
      have HAT := hidL hat
      have HCK : Hid (Calls _ _ _ _ _) := HCT.out k v wr hv hbel
      have HV := hidL hv
      rw [hq] at hc hql
      clear hrow hro hat hv hq
      by_cases hq1 : q = 1
      · have HK2 := hidL (HK.out.skip fun h9 => by have := (HAT.out.1 h9).1; omega)
        subst hq1
        go_wp2
        go_roundw
        case rel => exact ⟨k + 1, H, by omega, rfl, by go_num, kb, hbel, HK2⟩
        case measure => simp [intOf]; omega
      · have e4 : ((q : Int) == 1) = false := by simp; omega
        have hs : IntKind.i64.wrap ((q : Int) - 1) = ((q - 1 : Nat) : Int) := by rw [IntKind.wrap_i64]; omega
        have hp0 := Ld.prod (b := bd) (q := ((q - 1 : Nat) : Int)) ⟨hbd1, hbd2⟩ ⟨by omega, by omega⟩
        obtain ⟨p, hpp⟩ : ∃ p, bd * ((q - 1 : Nat) : Int) = p := ⟨_, rfl⟩
        have hp : IntKind.i64.wrap (bd * ((q - 1 : Nat) : Int)) = p := hp0.trans hpp
        have hpe : bd * ((q : Int) - 1) = p := by rw [← hpp, show ((q - 1 : Nat) : Int) = (q : Int) - 1 by omega]
        have HAT2 : Hid (Ld.ColdAt l m bd k ↔ v < p) := by
          show _ ↔ _
          rw [HAT.out, hpe]
          exact ⟨fun h => h.2, fun h => ⟨by omega, h⟩⟩
        clear hp0 hpp hpe hq1 HAT
        by_cases hle : p ≤ v
        · have HK2 := hidL (HK.out.skip fun h9 => by have := HAT2.out.1 h9; omega)
          clear HK
          go_wp2_with fail
          refine HCK.out.mono ?_
          rintro r u5 ⟨rfl, h5⟩
          subst h5
          go_wp2
          go_roundw
          case rel => exact ⟨k + 1, H, by omega, rfl, by go_num, kb, hbel, HK2⟩
          case measure => simp [intOf]; omega
        · have HP := hidL (HAT2.out.2 (by omega))
          clear HAT2
          rcases HK.out.ways with rfl | ⟨x, rfl, hPx, hxk⟩
          · have HK2 := hidL (HK.out.first HP.out)
            clear HK HP
            go_wp2_with fail
            refine HCK.out.mono ?_
            rintro r u5 ⟨rfl, h5⟩
            subst h5
            go_wp2
            go_roundw
            case rel => exact ⟨k + 1, k, by omega, rfl, by go_num, kb, hbel, HK2⟩
            case measure => simp [intOf]; omega
          · clear hPx
            obtain ⟨v2, hv2⟩ : ∃ v2, Ld.count l (x : Int) = v2 := ⟨_, rfl⟩
            have HCX : Hid (Calls _ _ _ _ _) := HCT.out x v2 wr hv2 hbel
            have HV2 := hidL hv2
            have hx0 : ¬ (x : Int) < 0 := by omega
            clear hv2
            by_cases hcmp : v < v2
            · have HK2 : Hid (Ld.Best _ _ (k + 1) (k : Int)) := HK.out.turn HP.out (by show -Ld.count l (x : Int) < -Ld.count l (k : Int); rw [HV2.out, HV.out]; omega)
              clear HK HP
              go_wp2_with fail
              refine HCK.out.mono ?_
              rintro r u5 ⟨rfl, h5⟩
              subst h5
              go_wp2_with fail
              refine HCK.out.mono ?_
              rintro r u5 ⟨rfl, h5⟩
              subst h5
              go_wp2_with fail
              refine HCX.out.mono ?_
              rintro r u5 ⟨rfl, h5⟩
              subst h5
              go_wp2
              go_roundw
              case rel => exact ⟨k + 1, k, by omega, rfl, by go_num, kb, hbel, HK2⟩
              case measure => simp [intOf]; omega
            · have HK2 : Hid (Ld.Best _ _ (k + 1) (x : Int)) := HK.out.stay (by show -Ld.count l (k : Int) ≤ -Ld.count l (x : Int); rw [HV2.out, HV.out]; omega)
              clear HK HP
              go_wp2_with fail
              refine HCK.out.mono ?_
              rintro r u5 ⟨rfl, h5⟩
              subst h5
              go_wp2_with fail
              refine HCK.out.mono ?_
              rintro r u5 ⟨rfl, h5⟩
              subst h5
              go_wp2_with fail
              refine HCX.out.mono ?_
              rintro r u5 ⟨rfl, h5⟩
              subst h5
              go_wp2
              go_roundw
              case rel => exact ⟨k + 1, x, by omega, rfl, by go_num, kb, hbel, HK2⟩
              case measure => simp [intOf]; omega
    · have hkn : k = n := by omega
      subst hkn
      have hli : ¬ (k : Int) < (k : Int) := by omega
      have cc0 := kb.cell 0 rfl
      have cc1 := kb.cell 1 rfl
      have HB : Hid (∀ y, Ld.ColdAt l m bd y → y < k) := fun y hy => by have := hy.1; have := HL.out; omega
      rcases HK.out.ways with rfl | ⟨x, rfl, hPx, hxk⟩
      · obtain ⟨rfl, rfl, rfl⟩ := HI.out.no (fun k => k.2.elim fun x hx => HK.out.none HB.out x hx.1)
        go_wp2
        go_ret3
        exact ⟨rfl, hbel⟩
      · obtain ⟨rfl, hN, rfl⟩ := HI.out.at HF.out (HK.out.is.full HB.out)
        have hx0 : ¬ (x : Int) < 0 := by omega
        have hx1 : (0 : Int) ≤ (x : Int) := by omega
        have hxi : (x : Int) < (k : Int) := by omega
        have hql := Pl.row_len (HF.out.1.row hPx.1)
        obtain ⟨b, off, A, C, rfl, hb, hc, hrow⟩ := mat_at (Shape.now HA.out hbel) hxk
        have hRow := Row.of_rep hrow
        obtain ⟨q, hq⟩ : ∃ q, (m.getD x []).length = q := ⟨_, rfl⟩
        rw [hq] at hc hql hRow hN
        have hp : q - 1 < q := by omega
        obtain ⟨b2, o2, rfl, hb3, hcc⟩ := hRow.at hp
        rw [← hN] at hcc
        have hs : IntKind.i64.wrap ((q : Int) - 1) = ((q - 1 : Nat) : Int) := by rw [IntKind.wrap_i64]; omega
        generalize q - 1 = p at *
        have hp2 : (p : Int) < (q : Int) := by omega
        have hp3 : (0 : Int) ≤ (p : Int) := by omega
        clear hPx hN HI HK HB hrow hRow hq hql
        go_wp2
        go_quiet (fail)
        go_wp2
        go_ret3
        exact ⟨rfl, bel_drewN hbel _⟩

end Go.Proofs.Ytpldfalnoaamkaa
