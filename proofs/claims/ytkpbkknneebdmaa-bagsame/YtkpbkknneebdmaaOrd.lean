/- Regions that draw their order and hold calls that make new memory (no program in sight): what only reads is walked once, ahead of what makes; over the calls alone the orders are parted; a call's answer may hang on the world in which it is made, as long as what is said of it stays true in every later world. -/
import Derived.Test.YtkpbkknneebdmaaKit
namespace Go.Proofs.Ytkpbkknneebdmaa
open Go.ChangeShapes Go.WideShapes Go.ChangeAt Go.RowKit

namespace Ord
/-- x comes of w by new memory alone. -/
abbrev Lat (w x : World) : Prop := Below w.heap.size w x
theorem lat_trans {w x y : World} (h : Lat w x) (k : Lat x y) : Lat w y := bel_then h k

section
variable {P : Program} {ops : Array Oper} {md : Region.Mode} {Q : Act → World → Prop}

/-- What is asked once an operation, carried out in the world x, has yielded this. -/
def goes (P : Program) (o : Oper) (a : Act) (x : World) (K : Act → World → Prop) : Result Next → Prop
  | .ok (.value u) x' => Lat x x' ∧ K (a.put o.dst u) x'
  | .ok .skip x' => Lat x x' ∧ K (a.put o.dst undef) x'
  | .ok (.enter f args) x' => Calls P f args x' fun e x'' => ∃ v, e = .returned v ∧ Lat x x'' ∧ K (a.put o.dst v) x''
  | _ => False
theorem goes_mono {o : Oper} {a : Act} {x : World} {K K' : Act → World → Prop} {r : Result Next} (h : ∀ a' x', Lat x x' → K a' x' → K' a' x') (hh : goes P o a x K r) : goes P o a x K' r := by
  cases r with
  | ok n x' =>
    cases n <;> simp only [goes] at hh ⊢
    case value u => exact ⟨hh.1, h _ _ hh.1 hh.2⟩
    case skip => exact ⟨hh.1, h _ _ hh.1 hh.2⟩
    case enter f args => exact hh.mono fun e x'' ⟨v, he, hl, hk⟩ => ⟨v, he, hl, h _ _ hl hk⟩
  | halt y x' => simp only [goes] at hh

/-- Operation number i comes up. -/
def opL (P : Program) (ops : Array Oper) (i : Nat) (K : Act → World → Prop) (a : Act) (x : World) : Prop :=
  match ops[i]? with
  | none => K a x
  | some o => if Region.wanted o (yielded ops a.tmps) then goes P o a x K ((execOp a.eval o).run P x) else K (a.put o.dst undef) x
theorem opL_mono {i : Nat} {a : Act} {x : World} {K K' : Act → World → Prop} (h : ∀ a' x', Lat x x' → K a' x' → K' a' x') (hh : opL P ops i K a x) : opL P ops i K' a x := by
  unfold opL at *
  split
  · rename_i ho; simp only [ho] at hh; exact h _ _ (Below.refl _ _) hh
  · rename_i o ho
    simp only [ho] at hh
    split
    · rename_i hw; simp only [hw, if_true] at hh; exact goes_mono h hh
    · rename_i hw; simp only [hw] at hh; exact h _ _ (Below.refl _ _) hh

/-- Whatever order is picked from here on, in this world and in every later one. -/
def anyL (P : Program) (md : Region.Mode) (ops : Array Oper) (Q : Act → World → Prop) : Nat → Array Bool → Act → World → Prop
  | 0, listed, a, w => Region.ready md ops listed = [] ∧ ∀ x, Lat w x → Q a x
  | fuel + 1, listed, a, w => (Region.ready md ops listed = [] → ∀ x, Lat w x → Q a x) ∧
    ∀ i ∈ Region.ready md ops listed, ∀ x, Lat w x → opL P ops i (anyL P md ops Q fuel (listed.setIfInBounds i true)) a x

theorem anyL_later : ∀ {fuel : Nat} {listed : Array Bool} {a : Act} {w x : World}, Lat w x → anyL P md ops Q fuel listed a w → anyL P md ops Q fuel listed a x
  | 0, _, _, _, _, hx, h => ⟨h.1, fun y hy => h.2 y (lat_trans hx hy)⟩
  | _ + 1, _, _, _, _, hx, h => ⟨fun h0 y hy => h.1 h0 y (lat_trans hx hy), fun i hi y hy => h.2 i hi y (lat_trans hx hy)⟩

theorem wp_of_goes {o : Oper} {a : Act} {x : World} {K : Act → World → Prop} {K' : Act → World → Prop} {Q' : Exit → Act → World → Prop} (h : ∀ a' x', K a' x' → K' a' x') (hh : goes P o a x K ((execOp a.eval o).run P x)) : o.wp P a x K' Q' := by
  unfold Oper.wp
  generalize (execOp a.eval o).run P x = r at *
  cases r with
  | ok n x' =>
    cases n <;> simp only [goes] at hh <;> simp only [Oper.upon]
    case value u => exact h _ _ hh.2
    case skip => exact h _ _ hh.2
    case enter f args => exact hh.mono fun e x'' ⟨v, he, _, hk⟩ => by subst he; exact h _ _ hk
  | halt y x' => simp only [goes] at hh

theorem wpAny_of {Q' : Exit → Act → World → Prop} (hQ : ∀ a x, Q a x → Q' .normal a x) : ∀ (fuel : Nat) (listed : Array Bool) (a : Act) (w : World), anyL P md ops Q fuel listed a w → wpAny P md ops Q' fuel listed a w
  | 0, _, _, w, h => ⟨h.1, hQ _ _ (h.2 w (Below.refl _ _))⟩
  | fuel + 1, listed, a, w, h => ⟨fun h0 => hQ _ _ (h.1 h0 w (Below.refl _ _)), fun i hi => by
      have h1 := h.2 i hi w (Below.refl _ _)
      unfold opL at h1
      unfold wpOp
      split
      · rename_i ho; simp only [ho] at h1; exact wpAny_of hQ fuel _ _ _ h1
      · rename_i o ho
        simp only [ho] at h1
        split
        · rename_i hw; simp only [hw, if_true] at h1; exact .inl (wp_of_goes (fun a' x' => wpAny_of hQ fuel _ a' x') h1)
        · rename_i hw; simp only [hw] at h1; exact wpAny_of hQ fuel _ _ _ h1⟩

/-- In state a, in w and in every later world, o yields v and leaves the world alone. -/
def Rests (P : Program) (ops : Array Oper) (w : World) (o : Oper) (v : Value) (a : Act) : Prop :=
  (Region.wanted o (yielded ops a.tmps) = true ∧ ∀ x, Lat w x → (execOp a.eval o).run P x = .ok (.value v) x ∨ ((execOp a.eval o).run P x = .ok .skip x ∧ v = undef)) ∨
  (Region.wanted o (yielded ops a.tmps) = false ∧ v = undef)
theorem Rests.later {w x : World} {o : Oper} {v : Value} {a : Act} (hx : Lat w x) (h : Rests P ops w o v a) : Rests P ops x o v a := by
  rcases h with ⟨h1, h2⟩ | h
  · exact .inl ⟨h1, fun y hy => h2 y (lat_trans hx hy)⟩
  · exact .inr h
theorem Rests.of_same {w : World} {o : Oper} {v : Value} {a a' : Act} (hy : Rests P ops w o v a) (he : execOp a'.eval o = execOp a.eval o)
    (hw : Region.wanted o (yielded ops a'.tmps) = Region.wanted o (yielded ops a.tmps)) : Rests P ops w o v a' := by
  unfold Rests at *
  rw [he, hw]
  exact hy
theorem Rests.opL {i : Nat} {w x : World} {o : Oper} {v : Value} {a : Act} (hi : ops[i]? = some o) (hx : Lat w x) (hy : Rests P ops w o v a) {K : Act → World → Prop} (h : K (a.put o.dst v) x) : opL P ops i K a x := by
  unfold Ord.opL
  simp only [hi]
  rcases hy with ⟨hw, hv⟩ | ⟨hw, rfl⟩
  · simp only [hw, if_true]
    rcases hv x hx with e | ⟨e, rfl⟩
    · rw [e]; exact ⟨Below.refl _ _, h⟩
    · rw [e]; exact ⟨Below.refl _ _, h⟩
  · simp only [hw, Bool.false_eq_true, if_false]; exact h

/-- A value in another slot turns nothing but that slot. -/
theorem goes_beside {o : Oper} {a : Act} {x : World} {K : Act → World → Prop} {d : Option Tmp} {v : Value} (hd : ∀ t, d = some t → o.dst ≠ some t) {r : Result Next} (h : goes P o (a.put d v) x K r) :
    goes P o a x (fun b y => (∃ u, b = a.put o.dst u) ∧ K (b.put d v) y) r := by
  have turn : ∀ u, (a.put d v).put o.dst u = (a.put o.dst u).put d v := fun u => Act.put_comm a v u hd
  cases r with
  | halt => exact h.elim
  | ok n y => cases n with
    | value u => exact ⟨h.1, ⟨u, rfl⟩, turn u ▸ h.2⟩
    | skip => exact ⟨h.1, ⟨undef, rfl⟩, turn undef ▸ h.2⟩
    | enter => exact Calls.mono h fun _ _ ⟨u, he, hl, hk⟩ => ⟨u, he, hl, ⟨u, rfl⟩, turn u ▸ hk⟩
    | _ => exact h.elim
/-- j comes up ahead of i, which only reads and is apart from it: i may still come up, with the same value. -/
theorem opL_ahead {j : Nat} {oi oj : Oper} {v : Value} {w x : World} {K : Act → World → Prop} {a : Act} (hs : Region.noSelect ops = true) {i : Nat} (hi : ops[i]? = some oi) (hj : ops[j]? = some oj) (hap : oi.apart ops oj = true) (hx : Lat w x)
    (hy : Rests P ops w oi v a) (h : opL P ops j K (a.put oi.dst v) x) : opL P ops j (fun b y => Rests P ops y oi v b ∧ K (b.put oi.dst v) y) a x := by
  obtain ⟨unread, unlike, blind⟩ := Oper.apart_spec hap
  have si := fun cs b => Region.noSelect_spec hs i oi cs b hi
  have sj := fun cs b => Region.noSelect_spec hs j oj cs b hj
  have still : ∀ y u, Lat x y → Rests P ops y oi v (a.put oj.dst u) := fun y u hl =>
    (hy.later (lat_trans hx hl)).of_same (execOp_put oi si a oj.dst u blind) (wanted_put oi a oj.dst u blind)
  simp only [opL, hj, wanted_put oj a oi.dst v unread, execOp_put oj sj a oi.dst v unread] at h ⊢
  by_cases hw : Region.wanted oj (yielded ops a.tmps) = true
  · rw [if_pos hw] at h ⊢
    exact goes_mono (fun b y hl ⟨⟨u, hb⟩, hk⟩ => ⟨hb ▸ still y u hl, hk⟩) (goes_beside unlike h)
  · rw [if_neg hw] at h ⊢
    exact ⟨still x undef (Below.refl _ _), Act.put_comm a v undef unlike ▸ h⟩

theorem unlisted {listed : Array Bool} {j k : Nat} (h : (listed.setIfInBounds j true).getD k true = false) : listed.getD k true = false := by
  by_cases e : j = k
  · subst e
    exfalso
    revert h
    by_cases hl : j < listed.size <;> simp [hl]
  · rwa [getD_set_ne true e] at h
/-- Who may come up waits for nobody that has not come up. -/
theorem waits_not {listed : Array Bool} {i j : Nat} (hi : i ∈ Region.ready md ops listed) (hj : j ∈ Region.ready md ops listed) {o : Oper} (ho : ops[j]? = some o) : ∀ e ∈ o.after, Region.binds md e = true → e.on ≠ i := by
  intro e he hb hon
  obtain ⟨_, o', ho', hall⟩ := mem_ready.1 hj
  obtain rfl : o' = o := Option.some.inj (ho'.symm.trans ho)
  have h1 := hall e he hb
  have h0 := (mem_ready.1 hi).1
  rw [hon] at h1
  cases hc : listed[i]? with
  | none => simp [hc] at h1
  | some b => simp [hc] at h0 h1; exact absurd (h0.symm.trans h1) (by decide)
/-- Whoever has not come up and does not wait for i is apart from it. -/
def Clear (md : Region.Mode) (ops : Array Oper) (i : Nat) (oi : Oper) (listed : Array Bool) : Prop :=
  ∀ j oj, ops[j]? = some oj → j ≠ i → listed.getD j true = false → (∀ e ∈ oj.after, Region.binds md e = true → e.on ≠ i) → oi.apart ops oj = true

/-- What only reads, and may come up now, may be taken first. -/
theorem anyL_first {i : Nat} {oi : Oper} {v : Value} (hi : ops[i]? = some oi) (hs : Region.noSelect ops = true) (fuel : Nat) : ∀ (listed : Array Bool) (a : Act) (w : World), Clear md ops i oi listed → i ∈ Region.ready md ops listed → Rests P ops w oi v a →
    anyL P md ops Q fuel (listed.setIfInBounds i true) (a.put oi.dst v) w → anyL P md ops Q (fuel + 1) listed a w := by
  induction fuel with
  | zero =>
    intro listed a w _ hr hy H
    refine ⟨fun none => absurd (none ▸ hr) (by simp), fun j hj x hx => ?_⟩
    by_cases e : j = i
    · rw [e]; exact hy.opL hi hx (anyL_later hx H)
    · exact absurd (H.1 ▸ ready_mono hj e) (by simp)
  | succ fuel ih =>
    intro listed a w hc hr hy H
    refine ⟨fun none => absurd (none ▸ hr) (by simp), fun j hj x hx => ?_⟩
    by_cases e : j = i
    · rw [e]; exact hy.opL hi hx (anyL_later hx H)
    · obtain ⟨hun, oj, hoj, _⟩ := mem_ready.1 hj
      have hap := hc j oj hoj e hun (waits_not hr hj hoj)
      refine opL_mono (fun b y _ ⟨hb, hk⟩ => ih (listed.setIfInBounds j true) b y ?_ (ready_mono hr (Ne.symm e)) hb ?_) (opL_ahead hs hi hoj hap hx hy (H.2 j (ready_mono hj e) x hx))
      · exact fun k ok hk hki hku => hc k ok hk hki (unlisted hku)
      · rw [Array.setIfInBounds_comm _ _ e]; exact hk

/-! ### What only reads, one behind the other -/
/-- It calls no function of the program. -/
def reads (o : Oper) : Bool :=
  match o.op with
  | .move _ | .assign _ | .pick .. | .load .. | .binOp .. | .unOp .. | .convert .. | .slice .. | .fieldAddr .. | .field .. | .indexAddr .. | .index .. | .extract .. => true
  | .call c => match c.callee with
    | .builtin .len => true
    | .builtin .cap => true
    | .builtin .min => true
    | .builtin .max => true
    | _ => false
  | _ => false
theorem value_of {α : Type} {s : Sem α} {g : α → Value} {w x : World} {f : FuncId} {args : Array Value} : ¬ ((do let y ← s; pure (Next.value (g y)) : Sem Next).run P w = .ok (.enter f args) x) := by
  intro h
  simp only [Sem.run_bind] at h
  cases hs : s.run P w with
  | ok y w' => rw [hs] at h; simp [Result.andThen] at h
  | halt y w' => rw [hs] at h; simp [Result.andThen] at h
theorem reads_no_enter {o : Oper} (ho : reads o = true) {ρ : Operand → Value} {w x : World} {f : FuncId} {args : Array Value} : ¬ ((execOp ρ o).run P w = .ok (.enter f args) x) := by
  obtain ⟨dst, op, type, pos, after, guard⟩ := o
  cases op <;> first | (exfalso; revert ho; unfold reads; simp; done) | skip
  case move => simp [execOp]
  case assign => simp [execOp]
  case call c =>
    obtain ⟨callee, as, ts⟩ := c
    cases callee with
    | builtin b =>
      cases b <;> first | (exfalso; revert ho; unfold reads; simp; done) | skip
      all_goals (simp only [execOp, resolve, invoke, builtin, Sem.run_bind, Sem.run_pure, Result.andThen]; intro h; split at h <;> cases h)
    | value f => simp [reads] at ho
    | invoke r m => simp [reads] at ho
  all_goals (simp only [execOp]; exact value_of)


/-- In its place: an operation that can't be walked (where its guard passes it over, it need not be). -/
def stand (o : Oper) : Oper := if reads o then o else ⟨o.dst, .send (.const undef) (.const undef), o.type, o.pos, o.after, o.guard⟩
def pickOps (ops : Array Oper) : List Nat → List Oper
  | [] => []
  | k :: ks => match ops[k]? with
    | some o => stand o :: pickOps ops ks
    | none => pickOps ops ks
/-- Each may come up in its turn, and whatever else may come up is apart from it. -/
def seqB (md : Region.Mode) (ops : Array Oper) : List Nat → Array Bool → Bool
  | [], _ => true
  | k :: ks, listed => (Region.ready md ops listed).contains k && Region.free md ops listed k && seqB md ops ks (listed.setIfInBounds k true)
def mark : List Nat → Array Bool → Array Bool
  | [], listed => listed
  | k :: ks, listed => mark ks (listed.setIfInBounds k true)

theorem stand_wanted (o : Oper) (g : Nat → Option Bool) : Region.wanted (stand o) g = Region.wanted o g := by
  unfold stand
  split <;> rfl
theorem stand_dst (o : Oper) : (stand o).dst = o.dst := by unfold stand; split <;> rfl

theorem seg {w : World} (hs : Region.noSelect ops = true) : ∀ (ks : List Nat) (fuel : Nat) (listed : Array Bool) (a : Act), seqB md ops ks listed = true →
    wpQuiet P ops (fun w' => ∃ x : Later w, w' = x.u) (fun a' => anyL P md ops Q fuel (mark ks listed) a' w) (pickOps ops ks) a → anyL P md ops Q (fuel + ks.length) listed a w
  | [], _, _, _, _, h => h
  | k :: ks, fuel, listed, a, hB, h => by
    simp only [seqB, Bool.and_eq_true] at hB
    obtain ⟨⟨hr, hf⟩, hB'⟩ := hB
    have hr' : k ∈ Region.ready md ops listed := by simpa using hr
    obtain ⟨_, o, ho, _⟩ := mem_ready.1 hr'
    simp only [pickOps, ho, wpQuiet, stand_wanted, stand_dst] at h
    have key : ∃ v, Rests P ops w o v a ∧ anyL P md ops Q (fuel + ks.length) (listed.setIfInBounds k true) (a.put o.dst v) w := by
      by_cases hw : Region.wanted o (yielded ops a.tmps) = true
      · rw [if_pos hw] at h
        obtain ⟨v, h1, h2⟩ := h
        rw [stand_dst] at h2
        refine ⟨v, .inl ⟨hw, fun x hx => ?_⟩, seg hs ks fuel _ _ hB' h2⟩
        have h3 := h1 x ⟨⟨x, hx⟩, rfl⟩
        unfold Oper.quietAt at h3
        by_cases hre : reads o = true
        · have e : stand o = o := by unfold stand; rw [if_pos hre]
          rw [e] at h3
          have hno := fun f args x' => reads_no_enter (P := P) hre (ρ := a.eval) (w := x) (x := x') (f := f) (args := args)
          generalize (execOp a.eval o).run P x = r at *
          cases r with
          | ok n x' =>
            cases n <;> simp only [Oper.quietUpon] at h3
            case value u => obtain ⟨rfl, rfl⟩ := h3; exact .inl rfl
            case skip => obtain ⟨rfl, rfl⟩ := h3; exact .inr ⟨rfl, rfl⟩
            case enter f args => exact absurd rfl (hno f args x')
          | halt y x' => simp only [Oper.quietUpon] at h3
        · have e : stand o = ⟨o.dst, .send (.const undef) (.const undef), o.type, o.pos, o.after, o.guard⟩ := by unfold stand; rw [if_neg hre]
          rw [e] at h3
          simp [execOp, Oper.quietUpon] at h3
      · rw [if_neg hw] at h
        exact ⟨undef, .inr ⟨by simpa using hw, rfl⟩, seg hs ks fuel _ _ hB' h⟩
    obtain ⟨v, hy, hK⟩ := key
    exact anyL_first ho hs (fuel + ks.length) listed a w (Region.free_spec ho hf) hr' hy hK

/-- A value is laid into its slot ahead of a walk. -/
theorem seg_put {w : World} {dst : Option Tmp} {v : Value} {n : Nat} {listed : Array Bool} {a : Act} (hs : Region.noSelect ops = true) (ks : List Nat) (fuel : Nat) (hf : fuel + ks.length = n) (hB : seqB md ops ks listed = true)
    (h : ∃ L, pickOps ops ks = L ∧ wpQuiet P ops (fun w' => ∃ x : Later w, w' = x.u) (fun a' => anyL P md ops Q fuel (mark ks listed) a' w) (⟨dst, .move (.const v), 0, "", #[], none⟩ :: L) a) : anyL P md ops Q n listed (a.put dst v) w := by
  subst hf
  obtain ⟨L, rfl, h⟩ := h
  refine seg hs ks fuel listed _ hB ?_
  obtain ⟨u, h1, h2⟩ : Oper.quiet P ⟨dst, .move (.const v), 0, "", #[], none⟩ a (fun w' => ∃ x : Later w, w' = x.u) (wpQuiet P ops (fun w' => ∃ x : Later w, w' = x.u) (fun a' => anyL P md ops Q fuel (mark ks listed) a' w) (pickOps ops ks)) := h
  have h3 := h1 w ⟨⟨w, Below.refl _ _⟩, rfl⟩
  obtain ⟨_, rfl⟩ : w = w ∧ v = u := h3
  exact h2

theorem region {Q' : Exit → Act → World → Prop} {id : Nat} {l : List Oper} {a : Act} {w : World} (hm : P.follows .mixedOrders = true) (hs : Region.noSelect l.toArray = true) (ks : List Nat) (fuel : Nat) (hf : fuel + ks.length = l.length)
    (hB : seqB .any l.toArray ks (Array.replicate l.length false) = true)
    (h : ∃ L, pickOps l.toArray ks = L ∧ wpQuiet P l.toArray (fun w' => ∃ x : Later w, w' = x.u) (fun a' => anyL P .any l.toArray (fun a x => Q' .normal a x) fuel (mark ks (Array.replicate l.length false)) a' w) L a) : (Code.region id l.toArray true).wp P Q' a w := by
  obtain ⟨L, rfl, h⟩ := h
  have h1 := seg hs ks fuel _ a hB h
  rw [hf] at h1
  refine wp_region_any hm (wpAny_of (Q := fun a x => Q' .normal a x) (fun _ _ h => h) _ _ _ _ ?_)
  rw [List.size_toArray]
  exact anyL_later (x := w.drew) ((Below.refl _ w).drew) h1

/-! ### The calls -/
def enters (P : Program) (f : FuncId) : Bool :=
  match P.funcs[f]? with
  | none => false
  | some fn => !(fn.name == "runtime.NumGoroutine") && !fn.body.isNone
theorem run_enter {o : Oper} {a : Act} {x : World} {f : FuncId} {args : List Operand} {ts : Array TypeId} {vals : List Value} (hop : o.op = .call { callee := .value (.func f), args := args.toArray, argTypes := ts }) (he : enters P f = true) (hv : args.map a.eval = vals) :
    (execOp a.eval o).run P x = .ok (.enter f vals.toArray) x := by
  unfold enters at he
  cases hf : P.funcs[f]? with
  | none => rw [hf] at he; cases he
  | some fn =>
    rw [hf] at he
    simp only [Bool.and_eq_true, Bool.not_eq_true'] at he
    have h1 : ¬ fn.name = "runtime.NumGoroutine" := by simpa using he.1
    have h2 : ¬ fn.body = none := by have := he.2; cases hb : fn.body <;> simp_all
    simp [execOp, hop, resolve, Act.eval, Deferred.ofValue, invoke, callFunc, hf, h1, h2, ← hv]
theorem by_call {i : Nat} {o : Oper} {a : Act} {x : World} {K : Act → World → Prop} {f : FuncId} {args : List Operand} {ts : Array TypeId} {vals : List Value} (ho : ops[i]? = some o) (hw : Region.wanted o (yielded ops a.tmps) = true)
    (hop : o.op = .call { callee := .value (.func f), args := args.toArray, argTypes := ts }) (he : enters P f = true) (hv : args.map a.eval = vals) (d : Tmp) (hd : o.dst = some d)
    (h : Calls P f vals.toArray x fun e x' => ∃ v, e = .returned v ∧ Lat x x' ∧ K (a.put (some d) v) x') : opL P ops i K a x := by
  rw [← hd] at h
  unfold opL
  simp only [ho, hw, if_true]
  rw [run_enter hop he hv]
  exact h
theorem ready_one {i n : Nat} {listed : Array Bool} {a : Act} {w : World} (hr : Region.ready md ops listed = [i]) (h : ∀ x, Lat w x → opL P ops i (anyL P md ops Q n (listed.setIfInBounds i true)) a x) : anyL P md ops Q (n + 1) listed a w := by
  refine ⟨fun h0 => (by rw [hr] at h0; cases h0), fun j hj x hx => ?_⟩
  rw [hr] at hj
  obtain rfl : j = i := by simpa using hj
  exact h x hx
theorem ready_two {i j n : Nat} {listed : Array Bool} {a : Act} {w : World} (hr : Region.ready md ops listed = [i, j]) (h : ∀ x, Lat w x → opL P ops i (anyL P md ops Q n (listed.setIfInBounds i true)) a x)
    (h' : ∀ x, Lat w x → opL P ops j (anyL P md ops Q n (listed.setIfInBounds j true)) a x) : anyL P md ops Q (n + 1) listed a w := by
  refine ⟨fun h0 => (by rw [hr] at h0; cases h0), fun k hk x hx => ?_⟩
  rw [hr] at hk
  have hk' : k = i ∨ k = j := by simpa using hk
  rcases hk' with rfl | rfl
  · exact h x hx
  · exact h' x hx
theorem ready_none {n : Nat} {listed : Array Bool} {a : Act} {w : World} (hr : Region.ready md ops listed = []) (h : ∀ x : Later w, Q a x.u) : anyL P md ops Q n listed a w := by
  cases n with
  | zero => exact ⟨hr, fun x hx => h ⟨x, hx⟩⟩
  | succ n => exact ⟨fun _ x hx => h ⟨x, hx⟩, fun i hi => by rw [hr] at hi; cases hi⟩

end
end Ord

end Go.Proofs.Ytkpbkknneebdmaa
