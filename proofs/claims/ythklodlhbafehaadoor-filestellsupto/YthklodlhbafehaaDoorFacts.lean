/- Closed facts: what the functions come to at the files that the statements ask first. -/
import Derived.Test.YthklodlhbafehaaDoorArgs
namespace Go.Proofs.YthklodlhbafehaaDoor
open Go.RowKit

def sAB : ByteArray := { data := #[97, 47, 98, 46, 104] }
def sMain : ByteArray := { data := #[109, 97, 105, 110, 46, 99] }
def aliveFs : List Src := [(sAB, { data := #[120, 121, 122] }), (sMain, { data := #[105, 110, 116] })]
def aliveEs : List Ed := [(0, 1, 2, { data := #[81] })]

theorem fact_clean : cleanB { data := #[97] } = true := by kernel_rfl
theorem fact_wrong : (wrongF aliveFs).1 = 0 := by kernel_rfl
theorem fact_find : findF aliveFs sMain = 1 := by kernel_rfl
theorem fact_beside : besideB sAB { data := #[46, 46, 47, 109, 97, 105, 110, 46, 99] } = sMain := by kernel_rfl
theorem fact_include : includeF aliveFs 0 { data := #[98, 46, 104] } true = 0 := by kernel_rfl
theorem sortE_one (x : Ed) : sortE [x] = [x] := List.perm_singleton.1 (sortE_perm [x])
theorem fact_change : changeF aliveFs aliveEs = ([(sAB, { data := #[120, 81, 122] }), (sMain, { data := #[105, 110, 116] })], 0) := by
  unfold changeF aliveEs
  rw [sortE_one]
  kernel_rfl

end Go.Proofs.YthklodlhbafehaaDoor
