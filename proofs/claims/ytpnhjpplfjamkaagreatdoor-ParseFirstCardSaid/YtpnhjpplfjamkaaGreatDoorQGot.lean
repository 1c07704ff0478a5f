/-
  What the document's parser answers, in memory.
-/
import Derived.Test.YtpnhjpplfjamkaaGreatDoorQParse
import Derived.Test.YtpnhjpplfjamkaaGreatDoorKTags
namespace Go.Proofs.YtpnhjpplfjamkaaGreatDoor
open Go Go.RowKit

theorem got_ok {W : World} {v : Value} {T : TagM} (h : GotR W v (T, none)) : ∃ g1 g2 g3 g4 g5 g6 g7 g8, v = .agg #[.string T.lang, .slice g1 T.extl.length g2, .string T.script, .string T.region, .slice g3 T.vars.length g4, .slice g5 T.exts.length g6, .slice g7 T.priv.length g8, .string T.grand, .int .i64 0, .int .i64 0, .string ⟨#[]⟩] ∧ TagIs W (.agg #[.string T.lang, .slice g1 T.extl.length g2, .string T.script, .string T.region, .slice g3 T.vars.length g4, .slice g5 T.exts.length g6, .slice g7 T.priv.length g8, .string T.grand]) T := by
  rcases h with ⟨x, h, _⟩ | ⟨t, ve, vv, vx, vp, h, rfl, ht⟩
  · cases h
  · obtain rfl : T = t := congrArg Prod.fst h
    obtain ⟨ae, ac, av, vc, ax, xc, ap, pc, hs⟩ := tag_shape ht
    have e : ve = .slice ae T.extl.length ac ∧ vv = .slice av T.vars.length vc ∧ vx = .slice ax T.exts.length xc ∧ vp = .slice ap T.priv.length pc := by simpa using hs
    obtain ⟨rfl, rfl, rfl, rfl⟩ := e
    exact ⟨ae, ac, av, vc, ax, xc, ap, pc, rfl, ht⟩
theorem got_err {W : World} {v : Value} {x : PErr} (h : GotR W v (pNo, some x)) : v = .agg #[.string ⟨#[]⟩, .slice none 0 0, .string ⟨#[]⟩, .string ⟨#[]⟩, .slice none 0 0, .slice none 0 0, .slice none 0 0, .string ⟨#[]⟩, .int .i64 x.1, .int .i64 (x.2.1 : Int), .string x.2.2] := by
  rcases h with ⟨y, h, rfl⟩ | ⟨t, ve, vv, vx, vp, h, _⟩
  · obtain rfl : x = y := Option.some.inj (congrArg Prod.snd h)
    rfl
  · cases h
theorem pNo_is (W : World) : TagIs W (.agg #[.string ⟨#[]⟩, .slice none 0 0, .string ⟨#[]⟩, .string ⟨#[]⟩, .slice none 0 0, .slice none 0 0, .slice none 0 0, .string ⟨#[]⟩]) pNo := zero_tagQ W ByteArray.empty
end Go.Proofs.YtpnhjpplfjamkaaGreatDoor
