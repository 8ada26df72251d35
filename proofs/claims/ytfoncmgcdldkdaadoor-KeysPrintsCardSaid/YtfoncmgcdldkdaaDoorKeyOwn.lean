/-
  The landed package keys answers as the document says, in each world in which its table holds what the program lays.
-/
import Derived.Test.YtfoncmgcdldkdaaDoorKeySays
import Derived.Test.YtfoncmgcdldkdaaDoorKeyPar
import Derived.Test.YtfoncmgcdldkdaaDoorKeyPri
namespace Go.Proofs.YtfoncmgcdldkdaaDoor
open Go.RowKit

theorem keySays {w0 : World} (h : NamedW w0) : KeySays w0 where
  may := fun r w _ hr => (keyMay_any r hr w).mono (by rintro e w' ⟨rfl, rfl⟩; exact ⟨rfl, Below.refl _ _⟩)
  print := fun A c B zs w hb hB hz hl hr => keyPrint_any A c B zs hz hl w (h.below hb (Nat.le_refl _)) hB hr
  parse := fun S w hb hS => keyParse_any S hS w (h.below hb (Nat.le_refl _))
end Go.Proofs.YtfoncmgcdldkdaaDoor
