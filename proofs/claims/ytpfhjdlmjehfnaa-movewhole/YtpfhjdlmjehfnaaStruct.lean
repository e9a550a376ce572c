/- Structs, strings and bools in memory, as Shapes (no program in sight): the fields' cells one behind the other. -/
import Derived.Test.YtpfhjdlmjehfnaaShape
import Derived.OpenShut
namespace Go.Proofs.Ytpfhjdlmjehfnaa
open Go.ChangeShapes Go.WideShapes Go.ChangeAt Go.RowKit

def strS : Shape ByteArray where
  size := 1
  rep _ _ cs x := cs = [.string x]
  len h := by subst h; rfl
  one h u hu := by subst h; simp at hu; subst hu; rfl
  keep h _ := h
  mono h _ := h
def boolS : Shape Bool where
  size := 1
  rep _ _ cs x := cs = [.bool x]
  len h := by subst h; rfl
  one h u hu := by subst h; simp at hu; subst hu; rfl
  keep h _ := h
  mono h _ := h

/-- No field more. -/
def noneS : Shape Unit where
  size := 0
  rep _ _ cs _ := cs = []
  len h := by subst h; rfl
  one h u hu := by subst h; simp at hu
  keep h _ := h
  mono h _ := h
/-- A field, and those behind it. -/
def consS {α β : Type} (A : Shape α) (B : Shape β) : Shape (α × β) where
  size := A.size + B.size
  rep w F cs x := ∃ c d, cs = c ++ d ∧ A.rep w F c x.1 ∧ B.rep w F d x.2
  len := by rintro w F cs x ⟨c, d, rfl, h1, h2⟩; rw [List.length_append, A.len h1, B.len h2]
  one := by
    rintro w F cs x ⟨c, d, rfl, h1, h2⟩ u hu
    rcases List.mem_append.1 hu with hu | hu
    · exact A.one h1 u hu
    · exact B.one h2 u hu
  keep := by rintro w w' F cs x ⟨c, d, rfl, h1, h2⟩ hk; exact ⟨c, d, rfl, A.keep h1 hk, B.keep h2 hk⟩
  mono := by rintro w F F' cs x ⟨c, d, rfl, h1, h2⟩ hk; exact ⟨c, d, rfl, A.mono h1 hk, B.mono h2 hk⟩

theorem opens_string {P : Program} {t : TypeId} (ht : P.underlying t = some .string) : Opens P t strS fun s => s.size ≤ maxLen := by
  intro H enc w base spare held fuel cs x h
  obtain ⟨s, rfl, _, hw⟩ := DataW.trod_string ht h
  exact ⟨s, rfl, hw⟩
theorem opens_bool {P : Program} {t : TypeId} (ht : P.underlying t = some .bool) : Opens P t boolS fun _ => True := by
  intro H enc w base spare held fuel cs x h
  obtain ⟨b, rfl, _⟩ := DataW.trod_bool ht h
  exact ⟨b, rfl, trivial⟩

/-- Whatever is read as the fields fs, of which the first lies o cells behind the struct's head, lies so. -/
def OpensAt (P : Program) (fs : List Field) (o : Nat) {α : Type} (A : Shape α) (Wf : α → Prop) : Prop :=
  ∀ (H : Type) (enc : TypeId × Value → H) (w : World) (base : Nat) (spare : Nat → Bool) (held : Bool) (n : Nat) (cs : List Value), cs.length = A.size →
    (∀ f ∈ fs, o ≤ f.offset ∧ ∃ y, DataW.trod enc P w base spare held n f.type ((cs.drop (f.offset - o)).take (P.cellsOf f.type)) = some y) → ∃ y, A.rep w everywhere cs y ∧ Wf y
theorem opensAt_nil {P : Program} {o : Nat} : OpensAt P [] o noneS fun _ => True := by
  intro H enc w base spare held n cs hl _
  exact ⟨(), List.eq_nil_of_length_eq_zero hl, trivial⟩
theorem opensAt_cons {P : Program} {f : Field} {fs : List Field} {o : Nat} {α β : Type} {A : Shape α} {B : Shape β} {Wa : α → Prop} {Wb : β → Prop} (ho : f.offset = o) (hc : P.cellsOf f.type = A.size) (ha : Opens P f.type A Wa) (hb : OpensAt P fs (o + A.size) B Wb)
    (hfs : fs.all (fun g => decide (o + A.size ≤ g.offset)) = true) : OpensAt P (f :: fs) o (consS A B) fun x => Wa x.1 ∧ Wb x.2 := by
  intro H enc w base spare held n cs hl h
  have hl' : cs.length = A.size + B.size := hl
  obtain ⟨_, y, hy⟩ := h f (by simp)
  rw [ho, Nat.sub_self, List.drop_zero, hc] at hy
  obtain ⟨a, ra, wa⟩ := ha H enc w base spare held n _ _ hy
  obtain ⟨b, rb, wb⟩ := hb H enc w base spare held n (cs.drop A.size) (by rw [List.length_drop]; omega) fun g hg => by
    have hle : o + A.size ≤ g.offset := by simpa using List.all_eq_true.1 hfs g hg
    obtain ⟨_, z, hz⟩ := h g (by simp [hg])
    refine ⟨hle, z, ?_⟩
    rw [List.drop_drop, show A.size + (g.offset - (o + A.size)) = g.offset - o by omega]
    exact hz
  exact ⟨(a, b), ⟨_, _, (List.take_append_drop A.size cs).symm, ra, rb⟩, wa, wb⟩
theorem opens_struct {P : Program} {t : TypeId} {fs : Array Field} {α : Type} {A : Shape α} {Wf : α → Prop} (ht : P.underlying t = some (.struct fs)) (hc : P.cellsOf t = A.size) (h : OpensAt P fs.toList 0 A Wf) : Opens P t A Wf := by
  intro H enc w base spare held fuel cs x hx
  obtain ⟨xs, n, _, _, hl, hxs, hf⟩ := DataW.trod_struct ht hx
  refine h H enc w base spare held n cs (hl.trans hc) fun f hmem => ⟨Nat.zero_le _, ?_⟩
  obtain ⟨i, hi⟩ := List.getElem?_of_mem hmem
  have hlt : i < fs.toList.length := (List.getElem?_eq_some_iff.1 hi).1
  have hlt' : i < xs.length := by rw [hxs]; simpa using hlt
  have := hf i f (by simpa using hi)
  rw [List.getElem?_eq_getElem hlt'] at this
  exact ⟨_, by rw [Nat.sub_zero]; exact this⟩

/-- An array, as a struct whose fields are its elements. -/
def elem (e : TypeId) (o : Nat) : Field := { name := "", type := e, offset := o, embedded := false, tag := "", pkgPath := "", byteOffset := 0 }
theorem opens_array {P : Program} {t e : TypeId} {n k : Nat} {α : Type} {A : Shape α} {Wf : α → Prop} (ht : P.underlying t = some (.array n e)) (hc : P.cellsOf t = A.size) (hk : P.cellsOf e = k) {fs : List Field} (hfs : fs = (List.range n).map fun i => elem e (i * k)) (h : OpensAt P fs 0 A Wf) : Opens P t A Wf := by
  intro H enc w base spare held fuel cs x hx
  obtain ⟨xs, m, _, _, hl, hxs, hf⟩ := DataW.trod_array ht hx
  refine h H enc w base spare held m cs (hl.trans hc) fun f hmem => ⟨Nat.zero_le _, ?_⟩
  rw [hfs] at hmem
  obtain ⟨i, hi, rfl⟩ := List.mem_map.1 hmem
  have hin : i < n := List.mem_range.1 hi
  have := hf i hin
  rw [hk, List.getElem?_eq_getElem (by rw [hxs]; exact hin)] at this
  exact ⟨_, by show DataW.trod enc P w base spare held m e ((cs.drop (i * k - 0)).take (P.cellsOf e)) = _; rw [Nat.sub_zero, hk]; exact this⟩
example {P : Program} {t e : TypeId} (ht : P.underlying t = some (.array 2 e)) (hc : P.cellsOf t = 2) (hk : P.cellsOf e = 1) (ho : Opens P e (intS .u8) fun x => (Lit.int .u8 x).wf = true) : Opens P t (consS (intS .u8) (consS (intS .u8) noneS)) fun x => (Lit.int .u8 x.1).wf = true ∧ (Lit.int .u8 x.2.1).wf = true ∧ True :=
  opens_array (A := consS (intS .u8) (consS (intS .u8) noneS)) ht hc hk (fs := [elem e 0, elem e 1]) (by rfl) (opensAt_cons (f := elem e 0) (A := intS .u8) rfl hk ho (opensAt_cons (f := elem e 1) (A := intS .u8) rfl hk ho opensAt_nil (by rfl)) (by rfl))

/-- What a struct's cells are, field by field. -/
theorem consS_int {w : World} {F : Nat → Prop} {k : IntKind} {β : Type} {B : Shape β} {cs : List Value} {x : Int × β} (h : (consS (intS k) B).rep w F cs x) : ∃ d, cs = .int k x.1 :: d ∧ B.rep w F d x.2 := by
  obtain ⟨c, d, rfl, h1, h2⟩ := h
  have h1' : c = [.int k x.1] := h1
  subst h1'
  exact ⟨d, rfl, h2⟩
theorem consS_str {w : World} {F : Nat → Prop} {β : Type} {B : Shape β} {cs : List Value} {x : ByteArray × β} (h : (consS strS B).rep w F cs x) : ∃ d, cs = .string x.1 :: d ∧ B.rep w F d x.2 := by
  obtain ⟨c, d, rfl, h1, h2⟩ := h
  have h1' : c = [.string x.1] := h1
  subst h1'
  exact ⟨d, rfl, h2⟩
theorem consS_bool {w : World} {F : Nat → Prop} {β : Type} {B : Shape β} {cs : List Value} {x : Bool × β} (h : (consS boolS B).rep w F cs x) : ∃ d, cs = .bool x.1 :: d ∧ B.rep w F d x.2 := by
  obtain ⟨c, d, rfl, h1, h2⟩ := h
  have h1' : c = [.bool x.1] := h1
  subst h1'
  exact ⟨d, rfl, h2⟩
theorem consS_slice {w : World} {F : Nat → Prop} {α β : Type} {A : Shape α} {B : Shape β} {cs : List Value} {x : List α × β} (h : (consS (sliceS A) B).rep w F cs x) :
    ∃ a n c d, cs = .slice a n c :: d ∧ (sliceS A).rep w F [.slice a n c] x.1 ∧ B.rep w F d x.2 := by
  obtain ⟨c, d, rfl, h1, h2⟩ := h
  obtain ⟨a, cap, css, rfl, h3⟩ := h1
  exact ⟨a, _, cap, d, rfl, ⟨a, cap, css, rfl, h3⟩, h2⟩
theorem noneS_nil {w : World} {F : Nat → Prop} {cs : List Value} {x : Unit} (h : noneS.rep w F cs x) : cs = [] := h

/-- A struct that comes in by value. -/
theorem okWide_agg {P : Program} {w : World} {r : Reach} {base : Nat} {t : TypeId} {v : Value} {fs : Array Field} (ht : P.underlying t = some (.struct fs)) (h : Value.okWide P w r base t v) : ∃ cs : List Value, v = .agg cs.toArray := by
  obtain ⟨cs, rfl, _⟩ := okWide_struct ht h
  exact ⟨cs.toList, by simp⟩

end Go.Proofs.Ytpfhjdlmjehfnaa
