/- The laws' world: any step. -/
import Derived.Test.YtohfjpahdoodgaaDoorDE31
import Derived.Test.YtohfjpahdoodgaaDoorDE32
import Derived.Test.YtohfjpahdoodgaaDoorDE33
import Derived.Test.YtohfjpahdoodgaaDoorDE34
import Derived.Test.YtohfjpahdoodgaaDoorDE35
import Derived.Test.YtohfjpahdoodgaaDoorDE36
import Derived.Test.YtohfjpahdoodgaaDoorDE37
import Derived.Test.YtohfjpahdoodgaaDoorDE39
namespace Go.Proofs.YtohfjpahdoodgaaDoor
open Go.RowKit
set_option linter.unusedSimpArgs false
set_option linter.unusedVariables false

theorem does_any {w0 : Wx} {w : World} {F : Nat → Prop} {wb g n most : Nat} {lv : Value} {S : St} {pn : Int → Int} {H : List HT} (h : Hf w0 w F wb lv g n most S pn H) (pu : Pu n S pn H) (hn : n ≤ 7) (hroom : cntF S.ns + 2 ^ n ≤ most + 1) (hfew : H.length ≤ 40) (q qa qb qc : Int) :
    Calls Tryd.prog 10 #[.pointer (some ⟨wb, 0, none⟩), .agg #[.int .i64 q, .int .i64 qa, .int .i64 qb, .int .i64 qc]] w fun e w' => e = .returned (.tuple #[]) ∧ DoR w0 w' wb g n most S H := by
  by_cases hx : q < 0 ∨ 6 < q
  · exact does_x h pu hn hroom hfew q qa qb qc hx
  · rcases (show q = 0 ∨ q = 1 ∨ q = 2 ∨ q = 3 ∨ q = 4 ∨ q = 5 ∨ q = 6 by omega) with rfl | rfl | rfl | rfl | rfl | rfl | rfl
    · exact does_0 h pu hn hroom hfew qa qb qc
    · exact does_1 h pu hn hroom hfew qa qb qc
    · exact does_2 h pu hn hroom hfew qa qb qc
    · exact does_3 h pu hn hroom hfew qa qb qc
    · exact does_4 h pu hn hroom hfew qa qb qc
    · exact does_5 h pu hn hroom hfew qa qb qc
    · exact does_6 h pu hn hroom hfew qa qb qc
end Go.Proofs.YtohfjpahdoodgaaDoor
