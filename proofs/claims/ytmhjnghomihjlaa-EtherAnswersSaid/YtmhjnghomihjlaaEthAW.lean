
/-
  EtherAnswers' walk: all ways. No condition.
-/
import Derived.Test.YtmhjnghomihjlaaEthAV
import Derived.Test.YtmhjnghomihjlaaEthAN
import Derived.Test.YtmhjnghomihjlaaEthAY
namespace Go.Proofs.Ytmhjnghomihjlaa
set_option maxRecDepth 4000
open Go.RowKit
set_option linter.unusedVariables false

theorem etan_any (f : Fr) (q : Fl) (o : Fr) (r : Fl) (la : List Nat) (A1 : Option Addr) (n1 c1 : Nat) (lb : List Nat) (A2 : Option Addr) (n2 c2 : Nat) (w : World) (h : IsFr w f q) (h' : IsFr w o r) (hR1 : Rd w w.heap.size A1 la) (hB1 : By la) (hL1 : la.length = n1) (hc1 : n1 ≤ c1) (hR2 : Rd w w.heap.size A2 lb) (hB2 : By lb) (hL2 : lb.length = n2) (hc2 : n2 ≤ c2) :
    Calls Try.prog 3 #[f.val q, o.val r, .slice A1 n1 c1, .slice A2 n2 c2] w fun e w' => e = .returned (.bool true) ∧ Below w.heap.size w w' := by
  cases hf : fewE f
  · exact etan_few1 f q o r A1 n1 c1 A2 n2 c2 w h h' hf
  cases hf2 : fewE o
  · exact etan_few2 f q o r A1 n1 c1 A2 n2 c2 w h h' hf hf2
  by_cases h1 : n1 ≤ 100
  · by_cases h2 : n2 ≤ 100
    · cases ha : eansB f o
      · exact etan_no f q o r la A1 n1 c1 lb A2 n2 c2 w h h' hR1 hB1 hL1 hc1 hR2 hB2 hL2 hc2 hf hf2 h1 h2 ha
      · exact etan_yes f q o r la A1 n1 c1 lb A2 n2 c2 w h h' hR1 hB1 hL1 hc1 hR2 hB2 hL2 hc2 hf hf2 h1 h2 ha
    · exact etan_long2 f q o r A1 n1 c1 A2 n2 c2 w h h' hf hf2 h1 h2
  · exact etan_long1 f q o r A1 n1 c1 A2 n2 c2 w h h' hf hf2 h1
end Go.Proofs.Ytmhjnghomihjlaa
