/- The contract of syntax.Parse in a world that holds the tables of lex: it answers what the plain reader does, in new memory, and changes nothing that was there. -/
import Derived.Test.YtnlblacpeddciaaDoorParse1
import Derived.Test.YtnlblacpeddciaaDoorParse2
namespace Go.Proofs.YtnlblacpeddciaaDoor
open Go.RowKit

theorem parse_any (s : ByteArray) (w : World) (hs : s.size ≤ maxLen) (ht : Tabs w) :
    Calls Tryd.prog 10 #[.string s] w (ParsePost (parseB s) w) := by
  cases hr : lexAll s with
  | error pc => obtain ⟨p, c⟩ := pc; exact parse_lex s w hs ht hr
  | ok ts =>
    cases hu : unitP ts with
    | error pc => obtain ⟨p, c⟩ := pc; exact parse_err s w hs ht hr hu
    | ok q => obtain ⟨t, l'⟩ := q; exact parse_ok s w hs ht hr hu

end Go.Proofs.YtnlblacpeddciaaDoor
