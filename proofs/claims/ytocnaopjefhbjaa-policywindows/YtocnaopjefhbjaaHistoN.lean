/- The law HistoAdds: its walk. -/
import Derived.Test.YtocnaopjefhbjaaHistoL
namespace Go.Proofs.Ytocnaopjefhbjaa.W
open Go.RowKit
theorem built_model : Try.prog.built 31 [] = some (List.replicate 241 (.int .i64 0)).toArray := by kernel_rfl
set_option maxRecDepth 100000 in
theorem model_zero : List.replicate 241 (Value.int .i64 0) = bins (fun _ => 0) ++ [Value.int .i64 ((0 : Nat) : Int)] := by rw [bins_zero]; rfl
end Go.Proofs.Ytocnaopjefhbjaa.W
