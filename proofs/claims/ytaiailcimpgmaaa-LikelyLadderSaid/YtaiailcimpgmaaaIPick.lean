import Derived.Test.YtaiailcimpgmaaaFTag
namespace Go.Proofs.Ytaiailcimpgmaaa
open Go Go.RowKit
theorem Row.of_block {W : World} {g : Nat} (l : List ByteArray) {t : TypeId} (n cap : Nat) (hn : n = l.length) (h : W.heap[g]? = some (.cells (strs l).toArray t (0, 0))) : Row W (.slice (some ⟨g, 0, none⟩) n cap) l := by
  subst hn
  refine ⟨some ⟨g, 0, none⟩, cap, rfl, fun i x hx => ⟨g, rfl, ?_⟩⟩
  simp [World.cell?, h, strs, hx]
def pickI (L : Nat) (n : Int) : Nat := (Int.tmod (Int.tmod n L + L) L).toNat
def pickT (l : List ByteArray) (n : Int) : ByteArray := l.getD (pickI l.length n) ByteArray.empty
theorem pick_facts (L : Nat) (n : Int) (hL : 0 < L) : -(L : Int) < Int.tmod n L ∧ Int.tmod n L < L ∧ Int.tmod (Int.tmod n L + L) L = (pickI L n : Int) ∧ pickI L n < L := by
  have h1 := Int.lt_tmod_of_pos n (show (0 : Int) < L by omega)
  have h2 := Int.tmod_lt_of_pos n (show (0 : Int) < L by omega)
  have h3 : 0 ≤ Int.tmod (Int.tmod n L + L) L := Int.tmod_nonneg _ (by omega)
  have h4 := Int.tmod_lt_of_pos (Int.tmod n L + L) (show (0 : Int) < L by omega)
  refine ⟨h1, h2, ?_, ?_⟩
  · unfold pickI; omega
  · unfold pickI; omega
set_option maxRecDepth 100000 in
set_option maxHeartbeats 1000000 in
theorem pick_ref (v : Value) (l : List ByteArray) (n : Int) (w : World) (hv : Row w v l) (h0 : 0 < l.length) (hl : l.length ≤ 100) :
    Calls Try.prog 10 #[v, .int .i64 n] w fun e w' => e = .returned (.string (pickT l n)) ∧ w = w' := by
  obtain ⟨ao, cap, rfl, hc⟩ := hv
  obtain ⟨h1, h2, h3, h4⟩ := pick_facts l.length n h0
  obtain ⟨x, hx⟩ : ∃ x, l[pickI l.length n]? = some x := ⟨_, List.getElem?_eq_getElem h4⟩
  obtain ⟨g, rfl, hcell⟩ := hc _ x hx
  have HE := Lib.hid (show pickT l n = x by unfold pickT; rw [List.getD_eq_getElem?_getD, hx]; rfl)
  generalize hm : pickI l.length n = m at *
  have hz : ((l.length : Int) == 0) = false := by rw [beq_eq_false_iff_ne]; omega
  have hnz : ¬ (l.length : Int) = 0 := by omega
  generalize hr : Int.tmod n (l.length : Int) = r at *
  have hm0 : (0 : Int) ≤ (m : Int) := by omega
  have hml : (m : Int) < (l.length : Int) := by omega
  clear hc hx hm h0
  go_enter Try.func10, Try.ntmps10
  go_wp2
  go_ret
  exact ⟨ret_string HE.out.symm, rfl⟩
end Go.Proofs.Ytaiailcimpgmaaa
