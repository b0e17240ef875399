/- The contract of the document's own Parse, whole. -/
import Derived.Test.YtcdfjheklggfhaaDoorWi
import Derived.Test.YtcdfjheklggfhaaDoorWj
import Derived.Test.YtcdfjheklggfhaaDoorWl
namespace Go.Proofs.YtcdfjheklggfhaaDoor
open Go.RowKit SM
set_option linter.unusedSimpArgs false
set_option linter.unusedVariables false

theorem rparse_any (s : ByteArray) (w : World) (hs : s.size ≤ 9223372036854775807) :
    Calls Tryd.prog 25 #[.string s] w fun e w' => e = .returned (.tuple #[.int .u64 (pV s.data.toList), .int .i64 (pE s.data.toList)]) ∧ Grw w w' := by
  by_cases h : s.size < 2
  · exact rparse_short s w hs h
  · have h2 : 2 ≤ s.size := by omega
    by_cases h1 : s[0] = 80
    · rcases hN : numB (ds (s.data.toList.drop 1)) with _ | _
      · exact rparse_none1 s w hs h2 h1 hN
      · by_cases hK : endOf s.data.toList 1 < s.size
        · exact rparse_some s w hs h2 h1 hN hK
        · exact rparse_none2 s w hs h2 h1 hN hK
    · exact rparse_noP s w hs h2 h1
end Go.Proofs.YtcdfjheklggfhaaDoor
