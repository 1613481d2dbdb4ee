/-
  Numbers of parts: a part is so many numbers, or a list of rows of so many numbers, with how many rows ahead. What is written so is read in one way. No program here.
-/
namespace Go.Proofs.Ytojhecllgkoclaa
set_option linter.unusedVariables false
set_option linter.unusedSimpArgs false

abbrev Rows2 := List (List Int)
/-! ### Bytes -/
/-! ### The numbers that bytes are -/
end Go.Proofs.Ytojhecllgkoclaa
