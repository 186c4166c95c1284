/-
  The contracts of package word that package inst leans on: those of the first stage.
-/
import Derived.Test.YtilphdfobflbiaaF
namespace Go.Proofs.Ytilphdfobflbiaa
end Go.Proofs.Ytilphdfobflbiaa
