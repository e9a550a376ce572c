/- What the fixed answer of layer 7's laws does when called. -/
import Derived.Test.YtehelcbbcneihaaWireB
import Derived.Test.YtehelcbbcneihaaWireT
namespace Go.Proofs.Ytehelcbbcneihaa
open Go.ChangeShapes Go.WideShapes Go.ChangeAt Go.RowKit

theorem put_size {m : Wx.Msg} : (⟨(Wx.put m).toArray⟩ : ByteArray).size = 52 + 4 * m.vec.length := by show (Wx.put m).toArray.size = _; rw [List.size_toArray, Wx.put_len]
theorem put_list {m : Wx.Msg} : (⟨(Wx.put m).toArray⟩ : ByteArray).data.toList = Wx.put m := by show (Wx.put m).toArray.toList = _; simp
theorem right5 : Wx.right ⟨1, 0, 0, 5, 0, 0, 0, 0, 0, 0, []⟩ := by
  refine ⟨by decide, by decide, ?_, by decide, by intro x hx; simp at hx⟩
  intro x hx
  simp only [Wx.ten, List.mem_cons, List.not_mem_nil, or_false] at hx
  omega

theorem wawake (w : World) : Calls Try.prog 9 #[] w fun e w' => e = .returned (.bool true) ∧ Below w.heap.size w w' := by
  obtain ⟨S, hS⟩ : ∃ S : ByteArray, S = ⟨(Wx.put ⟨1, 0, 0, 5, 0, 0, 0, 0, 0, 0, []⟩).toArray⟩ := ⟨_, rfl⟩
  have HP : Hid (∀ w : World, Calls Try.prog 10 #[.agg #[.int .i64 1, .int .i64 0, .int .i64 0, .int .i64 5, .int .i64 0, .int .i64 0, .int .i64 0, .int .i64 0, .int .i64 0, .int .i64 0, .slice none 0 0]] w fun e w' => e = .returned (.tuple #[.string S, .int .i64 0]) ∧ Below w.heap.size w w') := by
    intro w
    have := wput 1 0 0 5 0 0 0 0 0 0 none 0 0 [] w (Row.nil _ _ _)
    rw [putS_yes right5, putE_yes right5, ← hS] at this
    exact this
  have hz : S.size = 52 := by rw [hS, put_size]; rfl
  have HT : Hid (Wx.take S.data.toList = (⟨1, 0, 0, 5, 0, 0, 0, 0, 0, 0, []⟩, 0)) := by show _ = _; rw [hS, put_list]; exact Wx.take_put right5
  have HX : Hid (Wx.take (⟨#[120]⟩ : ByteArray).data.toList = (⟨0, 0, 0, 0, 0, 0, 0, 0, 0, 0, []⟩, 2)) := Wx.take_unformed (fun h => by have := h.1; simp at this)
  clear hS
  go_enter Try.func9, Try.ntmps9
  go_wp2_with fail
  refine (HP.out _).mono ?_
  rintro e u1 ⟨rfl, hb1⟩
  go_wp2_with fail
  refine (wtake S (by rw [hz]; unfold maxLen; omega) 1 0 0 5 0 0 0 0 0 0 [] 0 HT.out _).mono ?_
  rintro e u2 ⟨hb2, ya, yn, yc, rfl, hr2⟩
  have hB2 := bel_then hb1 hb2
  go_wp2_with fail
  refine (wtake ⟨#[120]⟩ (by unfold maxLen; decide) 0 0 0 0 0 0 0 0 0 0 [] 2 HX.out _).mono ?_
  rintro e u3 ⟨hb3, za, zn, zc, rfl, hr3⟩
  have hB3 := bel_then (bel_alloc hB2 _) hb3
  have hbox := (Box.new u2 24 #[.int .i64 1, .int .i64 0, .int .i64 0, .int .i64 5, .int .i64 0, .int .i64 0, .int .i64 0, .int .i64 0, .int .i64 0, .int .i64 0, .slice ya yn yc]).keep hb3
  have hc0 := hbox.cell 0 rfl
  have hc3 := hbox.cell 3 rfl
  have hlt := hbox.lt
  go_wp2
  go_ret
  exact ⟨rfl, bel_alloc hB3 _⟩

end Go.Proofs.Ytehelcbbcneihaa
