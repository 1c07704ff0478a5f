/-
  The project's Clone: rows copied, an extension, a row of extensions, a tag.
-/
import Derived.Test.YtgdcdijdpflmdaaLSubtags
import Derived.Test.YtgdcdijdpflmdaaIMade
namespace Go.Proofs.Ytgdcdijdpflmdaa
open Go Go.RowKit

/-- A row that is copied so far. -/
def copyK (l : List ByteArray) (k : Nat) : List Value := strs (l.take k) ++ List.replicate (l.length - k) (.string ByteArray.empty)
theorem copyK_zero (l : List ByteArray) : copyK l 0 = List.replicate l.length (.string ByteArray.empty) := by simp [copyK, strs]
theorem copyK_all (l : List ByteArray) : copyK l l.length = strs l := by simp [copyK]
theorem copyK_len (l : List ByteArray) {k : Nat} (h : k ≤ l.length) : (copyK l k).length = l.length := by simp [copyK, strs]; omega
theorem copyK_set (l : List ByteArray) {k : Nat} {x : ByteArray} (h : l[k]? = some x) : (copyK l k).set k (.string x) = copyK l (k + 1) := by
  have hk : k < l.length := (List.getElem?_eq_some_iff.1 h).1
  have hl : (strs (l.take k)).length = k := by simp [strs]; omega
  unfold copyK
  rw [List.set_append_right _ _ (by omega), hl, Nat.sub_self, take_next h, strs_append, List.append_assoc]
  congr 1
  obtain ⟨m, hm⟩ : ∃ m, l.length - k = m + 1 := ⟨l.length - k - 1, by omega⟩
  rw [hm, show l.length - (k + 1) = m by omega, List.replicate_succ]
  rfl
theorem eql_none (n c : Nat) (w : World) : (binOp .eql 26 (.slice none n c) (.slice none 0 0)).run Try.prog w = .ok (.bool true) w := by kernel_rfl
theorem eql_some (a : Addr) (n c : Nat) (w : World) : (binOp .eql 26 (.slice (some a) n c) (.slice none 0 0)).run Try.prog w = .ok (.bool false) w := by kernel_rfl
theorem extSizeM : (Try.prog.info? 53).map (·.size) = some 2 := by kernel_rfl
theorem extInfoM : (Try.prog.info? 53).map (fun i => (i.zero, i.size, i.bytes)) = some (some (.agg #[.string ByteArray.empty, .slice none 0 0]), 2, 40) := by kernel_rfl

theorem cells2_after {W : World} {B : Nat} {a b x y : Value} (h0 : W.cell? ⟨B, 0, none⟩ = some a) (h1 : W.cell? ⟨B, 1, none⟩ = some b) :
    ((W.setCell ⟨B + 1, 0, none⟩ x).setCell ⟨B + 1, 1, none⟩ y).cell? ⟨B, 0, none⟩ = some a ∧ ((W.setCell ⟨B + 1, 0, none⟩ x).setCell ⟨B + 1, 1, none⟩ y).cell? ⟨B, 1, none⟩ = some b := by
  have ne : ∀ o, ((W.setCell ⟨B + 1, 0, none⟩ x).setCell ⟨B + 1, 1, none⟩ y).cell? ⟨B, o, none⟩ = W.cell? ⟨B, o, none⟩ := fun o =>
    World.cell?_of_block (a := ⟨B, o, none⟩) ((Below.heap_setCell _ _ _ _ (by show B ≠ B + 1; omega)).trans (Below.heap_setCell _ _ _ _ (by show B ≠ B + 1; omega)))
  exact ⟨(ne 0).trans h0, (ne 1).trans h1⟩
/-- A row of extensions that is copied so far. -/
theorem ext_set {L : List (ByteArray × List ByteArray)} {us rest : List Value} {k : Nat} {x : ByteArray × List ByteArray} {u : Value} (hk : us.length = k) (hx : L[k]? = some x) (hr : rest.length = (L.length - k) * 2) :
    ∃ rest', rest'.length = (L.length - (k + 1)) * 2 ∧ ((extCells (L.take k) us ++ rest).set (k * 2) (.string x.1)).set (k * 2 + 1) u = extCells (L.take (k + 1)) (us ++ [u]) ++ rest' := by
  have hl : k < L.length := (List.getElem?_eq_some_iff.1 hx).1
  have h1 : (L.take k).length = k := by rw [List.length_take]; omega
  have h2 : (extCells (L.take k) us).length = k * 2 := by rw [extCells_length (by omega), h1]
  obtain ⟨r0, r1, r, rfl⟩ : ∃ r0 r1 r, rest = r0 :: r1 :: r := by
    match rest, hr with
    | [], h => simp at h; omega
    | [_], h => simp at h; omega
    | r0 :: r1 :: r, _ => exact ⟨r0, r1, r, rfl⟩
  refine ⟨r, by simp at hr; omega, ?_⟩
  rw [List.set_append_right _ _ (by omega), h2, Nat.sub_self, List.set_append_right _ _ (by omega), h2, show k * 2 + 1 - k * 2 = 1 by omega]
  have e : extCells (L.take (k + 1)) (us ++ [u]) = extCells (L.take k) us ++ [.string x.1, u] := by
    rw [take_next hx]
    unfold extCells
    rw [List.zip_append (by omega), List.flatMap_append]
    rfl
  rw [e, List.append_assoc]
  rfl
theorem eqlx_none (n c : Nat) (w : World) : (binOp .eql 27 (.slice none n c) (.slice none 0 0)).run Try.prog w = .ok (.bool true) w := by kernel_rfl
theorem eqlx_some (a : Addr) (n c : Nat) (w : World) : (binOp .eql 27 (.slice (some a) n c) (.slice none 0 0)).run Try.prog w = .ok (.bool false) w := by kernel_rfl

/-- A tag with rows that the call has made. -/
structure CloneIs (w : World) (base : Nat) (ve vv vx vp : Value) (T : TagM) : Prop where
  e : w.ownsRow base 9 1 ve T.extl.length (strs T.extl)
  v : w.ownsRow base 9 1 vv T.vars.length (strs T.vars)
  x : ExtO w base vx T.exts
  p : w.ownsRow base 9 1 vp T.priv.length (strs T.priv)

end Go.Proofs.Ytgdcdijdpflmdaa
