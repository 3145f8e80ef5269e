/- The contract of lychgatelaw01.wakes in a world that holds the tables of lex: it returns true, and changes nothing that was in memory. -/
import Derived.Test.YtafhpckhjncecaaDoorTokens
import Derived.Deep.AppendLies
import Derived.Laws.OwnMore
namespace Go.Proofs.YtafhpckhjncecaaDoor
open Go.RowKit

def s0 : ByteArray := ⟨#[120, 61, 45, 49]⟩

def t0 : List Tok := [⟨1, ⟨#[120]⟩, 0, 0⟩, ⟨4, ⟨#[61]⟩, 0, 1⟩, ⟨4, ⟨#[45]⟩, 0, 2⟩, ⟨3, ⟨#[49]⟩, 1, 3⟩, ⟨0, ⟨#[]⟩, 0, 4⟩]

theorem lex_s0 : lexAll s0 = .ok t0 := by
  have e : lexAll s0 = lexFrom s0 0 := rfl
  have h0 : lexFrom s0 0 = more [⟨1, ⟨#[120]⟩, 0, 0⟩] (lexFrom s0 1) := lex_tok (by decide) (by decide) (by decide) (by rfl)
  have h1 : lexFrom s0 1 = more [⟨4, ⟨#[61]⟩, 0, 1⟩] (lexFrom s0 2) := lex_tok (by decide) (by decide) (by decide) (by simp only [tokAt, signTok, signFrom, hasPre, ByteArray.toList_eq]; rfl)
  have h2 : lexFrom s0 2 = more [⟨4, ⟨#[45]⟩, 0, 2⟩] (lexFrom s0 3) := lex_tok (by decide) (by decide) (by decide) (by simp only [tokAt, signTok, signFrom, hasPre, ByteArray.toList_eq]; rfl)
  have h3 : lexFrom s0 3 = more [⟨3, ⟨#[49]⟩, 1, 3⟩] (lexFrom s0 4) := lex_tok (by decide) (by decide) (by decide) (by rfl)
  have h4 : lexFrom s0 4 = .ok [⟨0, ⟨#[]⟩, 0, 4⟩] := lex_end (by decide)
  rw [e, h0, h1, h2, h3, h4]
  rfl

set_option maxHeartbeats 1000000 in
theorem wakes_any (w : World) (ht : Tabs w) :
    Calls Tryd.prog 12 #[] w fun e w' => e = .returned (.bool true) ∧ Below w.heap.size w w' := by
  go_enter Tryd.func12, Tryd.ntmps12
  go_wp2_with fail
  refine (tokens_any s0 w (by unfold maxLen; decide) ht).mono ?_
  rw [lex_s0]
  rintro e w1 ⟨v, rfl, hown, hb⟩
  have hown' : w1.ownsRow w.heap.size 35 4 v 5 (cellsOf t0) := hown
  obtain ⟨g, cap, rfl, hg1, hg2⟩ := hown'.form (by omega)
  have c0 : w1.cell? ⟨g, 0, none⟩ = some (.int .i64 1) := hown'.cellAt 0 (by omega)
  have c1 : w1.cell? ⟨g, 1, none⟩ = some (.string ⟨#[120]⟩) := hown'.cellAt 1 (by omega)
  have c2 : w1.cell? ⟨g, 2, none⟩ = some (.int .i64 0) := hown'.cellAt 2 (by omega)
  have c3 : w1.cell? ⟨g, 3, none⟩ = some (.int .i64 0) := hown'.cellAt 3 (by omega)
  have c12 : w1.cell? ⟨g, 12, none⟩ = some (.int .i64 3) := hown'.cellAt 12 (by omega)
  have c13 : w1.cell? ⟨g, 13, none⟩ = some (.string ⟨#[49]⟩) := hown'.cellAt 13 (by omega)
  have c14 : w1.cell? ⟨g, 14, none⟩ = some (.int .i64 1) := hown'.cellAt 14 (by omega)
  have c15 : w1.cell? ⟨g, 15, none⟩ = some (.int .i64 3) := hown'.cellAt 15 (by omega)
  have c19 : w1.cell? ⟨g, 19, none⟩ = some (.int .i64 4) := hown'.cellAt 19 (by omega)
  have HB := Lib.hid hb
  clear hown hown' hb
  go_wp2
  all_goals go_ret
  exact ⟨rfl, HB.out⟩

end Go.Proofs.YtafhpckhjncecaaDoor
