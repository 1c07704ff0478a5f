/-
  Package likely: Ladder, Full, cmp.Or.
-/
import Derived.Test.YthjfcfhibdpbnaaTSeq
namespace Go.Proofs.Ythjfcfhibdpbnaa
open Go Go.RowKit

theorem emptyT {s : ByteArray} (h : s.size = 0) : s = ⟨#[]⟩ := by
  obtain ⟨d⟩ := s
  have : d.size = 0 := h
  rw [Array.eq_empty_of_size_eq_zero this]
theorem lad_fin (w : World) (o : Obj) (l s r : ByteArray) (N : Int) (hN : (sizeT l s : Int) = N) :
    LadAt (w.heap.size + 1) (w.heap.size + 2) l s r (((w.alloc o).alloc (.cells #[.string l, .string s, .string r, .string l, .string ⟨#[]⟩, .string r, .string l, .string s, .string ⟨#[]⟩, .string l, .string ⟨#[]⟩, .string ⟨#[]⟩, .string ⟨#[117, 110, 100]⟩, .string s, .string ⟨#[]⟩] 98)).alloc (.cells #[.int .i64 N] 3)) ∧
      Below w.heap.size w (((w.alloc o).alloc (.cells #[.string l, .string s, .string r, .string l, .string ⟨#[]⟩, .string r, .string l, .string s, .string ⟨#[]⟩, .string l, .string ⟨#[]⟩, .string ⟨#[]⟩, .string ⟨#[117, 110, 100]⟩, .string s, .string ⟨#[]⟩] 98)).alloc (.cells #[.int .i64 N] 3)) ∧
      (((w.alloc o).alloc (.cells #[.string l, .string s, .string r, .string l, .string ⟨#[]⟩, .string r, .string l, .string s, .string ⟨#[]⟩, .string l, .string ⟨#[]⟩, .string ⟨#[]⟩, .string ⟨#[117, 110, 100]⟩, .string s, .string ⟨#[]⟩] 98)).alloc (.cells #[.int .i64 N] 3)).heap.size = w.heap.size + 3 := by
  refine ⟨⟨?_, ?_⟩, (((Below.refl _ w).alloc (Nat.le_refl _) _).alloc (by simp) _).alloc (by simp; omega) _, by simp⟩
  · rw [Below.heap_alloc _ _ _ (by simp)]
    have := World.alloc_heap_new (w.alloc o) (.cells #[.string l, .string s, .string r, .string l, .string ⟨#[]⟩, .string r, .string l, .string s, .string ⟨#[]⟩, .string l, .string ⟨#[]⟩, .string ⟨#[]⟩, .string undT, .string s, .string ⟨#[]⟩] 98)
    rwa [World.size_alloc] at this
  · rw [hN]
    have := World.alloc_heap_new ((w.alloc o).alloc (.cells #[.string l, .string s, .string r, .string l, .string ⟨#[]⟩, .string r, .string l, .string s, .string ⟨#[]⟩, .string l, .string ⟨#[]⟩, .string ⟨#[]⟩, .string ⟨#[117, 110, 100]⟩, .string s, .string ⟨#[]⟩] 98)) (.cells #[.int .i64 N] 3)
    rwa [World.size_alloc, World.size_alloc] at this
set_option maxRecDepth 100000 in
set_option maxHeartbeats 2000000 in
theorem ladder_t (l s r g : ByteArray) (a1 a2 a3 a4 : Option Addr) (n1 n2 n3 n4 c1 c2 c3 c4 : Nat) (w : World) :
    Calls Try.prog 29 #[.agg #[.string l, .slice a1 n1 c1, .string s, .string r, .slice a2 n2 c2, .slice a3 n3 c3, .slice a4 n4 c4, .string g]] w fun e w' =>
      e = .returned (.func (.func 52) #[] #[.pointer (some ⟨w.heap.size + 1, 0, none⟩), .pointer (some ⟨w.heap.size + 2, 0, none⟩)]) ∧ LadAt (w.heap.size + 1) (w.heap.size + 2) l s r w' ∧ Below w.heap.size w w' ∧ w'.heap.size = w.heap.size + 3 := by
  have hsz := sizeT_le l s
  have e1 : ∀ x : ByteArray, 0 < x.size → x.toList.isEmpty = false := fun x h => empty_false h
  rcases Nat.eq_zero_or_pos s.size with h2 | h2
  · obtain rfl := emptyT h2
    rcases Nat.eq_zero_or_pos l.size with h1 | h1
    · obtain rfl := emptyT h1
      have HS := Lib.hid (show sizeT ⟨#[]⟩ ⟨#[]⟩ = 0 from rfl)
      clear hsz e1 h1 h2
      go_enter Try.func29, Try.ntmps29
      go_wp2_with fail
      go_ret
      exact ⟨rfl, lad_fin _ _ _ _ _ _ (by rw [HS.out]; rfl)⟩
    · have q1 := e1 l h1
      have HS := Lib.hid (show sizeT l ⟨#[]⟩ = 4 by unfold sizeT; rw [if_neg (by omega)]; rfl)
      clear hsz e1 h1 h2
      go_enter Try.func29, Try.ntmps29
      go_wp2_with fail
      go_ret
      exact ⟨rfl, lad_fin _ _ _ _ _ _ (by rw [HS.out]; rfl)⟩
  · have q2 := e1 s h2
    rcases Nat.eq_zero_or_pos l.size with h1 | h1
    · obtain rfl := emptyT h1
      have HS := Lib.hid (show sizeT ⟨#[]⟩ s = 0 from rfl)
      clear hsz e1 h1 h2
      go_enter Try.func29, Try.ntmps29
      go_wp2_with fail
      go_ret
      exact ⟨rfl, lad_fin _ _ _ _ _ _ (by rw [HS.out]; rfl)⟩
    · have q1 := e1 l h1
      have HS := Lib.hid (show sizeT l s = 5 by unfold sizeT; rw [if_neg (by omega), if_neg (by omega)])
      clear hsz e1 h1 h2
      go_enter Try.func29, Try.ntmps29
      go_wp2_with fail
      go_ret
      exact ⟨rfl, lad_fin _ _ _ _ _ _ (by rw [HS.out]; rfl)⟩
end Go.Proofs.Ythjfcfhibdpbnaa
