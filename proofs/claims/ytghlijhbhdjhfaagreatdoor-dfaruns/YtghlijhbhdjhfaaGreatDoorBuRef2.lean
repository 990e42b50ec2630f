/- The document's own tests: augurref10 Rising, Names. -/
import Derived.Test.YtghlijhbhdjhfaaGreatDoorBuRef1
namespace Go.Proofs.YtghlijhbhdjhfaaGreatDoor
open Go.RowKit Go.Shelf

end Go.Proofs.YtghlijhbhdjhfaaGreatDoor
