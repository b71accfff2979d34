/- What the model makes of the fields of a line. (made by tools/mkmodel.py) -/
import Derived.Test.YtacfkgfemmgpkaaGreatDoorLineWord
import Derived.Test.YtacfkgfemmgpkaaGreatDoorLineNum
import Derived.Test.YtacfkgfemmgpkaaGreatDoorLooseMath
import Derived.Test.YtacfkgfemmgpkaaGreatDoorTakeC
import Derived.Lib.SlicesS
namespace Go.Proofs.YtacfkgfemmgpkaaGreatDoor
open Go.RowKit Go.Lib

def longF (F : List ByteArray) : Option Lst :=
  if (F.getD 0 noText) = ⟨#[114, 101, 110, 97, 109, 101]⟩ then (if F.length = 3 then some ⟨1, 5, (F.getD 1 noText), (F.getD 2 noText), 0, 0, 0, ⟨#[]⟩, []⟩ else none) else
  if (F.getD 0 noText) = ⟨#[108, 105, 110, 107]⟩ then (if F.length = 3 then some ⟨1, 9, (F.getD 1 noText), (F.getD 2 noText), 0, 0, 0, ⟨#[]⟩, []⟩ else none) else
  if (F.getD 0 noText) = ⟨#[115, 121, 109, 108, 105, 110, 107]⟩ then (if F.length = 3 then some ⟨1, 10, (F.getD 1 noText), (F.getD 2 noText), 0, 0, 0, ⟨#[]⟩, []⟩ else none) else
  if (F.getD 0 noText) = ⟨#[97, 112, 112, 101, 110, 100]⟩ then (if F.length = 3 then (unqD (F.getD 2 noText)).map fun d => (⟨1, 8, (F.getD 1 noText), ⟨#[]⟩, 0, 0, 0, d, []⟩ : Lst) else none) else
  if (F.getD 0 noText) = ⟨#[119, 114, 105, 116, 101]⟩ then (if F.length = 4 then (numF (F.getD 2 noText)).bind fun n => (unqD (F.getD 3 noText)).map fun d => (⟨1, 6, (F.getD 1 noText), ⟨#[]⟩, 0, n, 0, d, []⟩ : Lst) else none) else
  if (F.getD 0 noText) = ⟨#[102, 105, 108, 108]⟩ then (if F.length = 5 ∧ ((F.getD 4 noText)).size = 1 ∧ 97 ≤ chr (F.getD 4 noText) 0 ∧ chr (F.getD 4 noText) 0 ≤ 122 then (numF (F.getD 2 noText)).bind fun n => (numF (F.getD 3 noText)).bind fun m => if 0 ≤ m ∧ m ≤ 3000 then some (⟨1, 6, (F.getD 1 noText), ⟨#[]⟩, 0, n, 0, (strOfNums (letL (chr (F.getD 4 noText) 0) m.toNat)), []⟩ : Lst) else none else none) else
  if (F.getD 0 noText) = ⟨#[116, 114, 117, 110, 99]⟩ then (if F.length = 3 then (numF (F.getD 2 noText)).map fun n => (⟨1, 7, (F.getD 1 noText), ⟨#[]⟩, 0, 0, n, ⟨#[]⟩, []⟩ : Lst) else none) else
  if (F.getD 0 noText) = ⟨#[114, 101, 97, 100]⟩ then (if F.length = 4 then (numF (F.getD 2 noText)).bind fun n => (numF (F.getD 3 noText)).map fun m => (⟨1, 17, (F.getD 1 noText), ⟨#[]⟩, 0, n, m, ⟨#[]⟩, []⟩ : Lst) else none) else
  none
def hanF (F : List ByteArray) : Option Lst :=
  if (F.getD 0 noText) = ⟨#[99, 108, 111, 115, 101]⟩ then (if F.length = 2 then (numF (F.getD 1 noText)).map fun h => (⟨1, 13, ⟨#[]⟩, ⟨#[]⟩, h, 0, 0, ⟨#[]⟩, []⟩ : Lst) else none) else
  if (F.getD 0 noText) = ⟨#[102, 115, 116, 97, 116]⟩ then (if F.length = 2 then (numF (F.getD 1 noText)).map fun h => (⟨1, 16, ⟨#[]⟩, ⟨#[]⟩, h, 0, 0, ⟨#[]⟩, []⟩ : Lst) else none) else
  if (F.getD 0 noText) = ⟨#[102, 116, 114, 117, 110, 99]⟩ then (if F.length = 3 then (numF (F.getD 1 noText)).bind fun h => (numF (F.getD 2 noText)).map fun n => (⟨1, 12, ⟨#[]⟩, ⟨#[]⟩, h, 0, n, ⟨#[]⟩, []⟩ : Lst) else none) else
  if (F.getD 0 noText) = ⟨#[112, 114, 101, 97, 100]⟩ then (if F.length = 4 then (numF (F.getD 1 noText)).bind fun h => (numF (F.getD 2 noText)).bind fun n => (numF (F.getD 3 noText)).map fun m => (⟨1, 15, ⟨#[]⟩, ⟨#[]⟩, h, n, m, ⟨#[]⟩, []⟩ : Lst) else none) else
  if (F.getD 0 noText) = ⟨#[112, 119, 114, 105, 116, 101]⟩ then (if F.length = 4 then (numF (F.getD 1 noText)).bind fun h => (numF (F.getD 2 noText)).bind fun n => (unqD (F.getD 3 noText)).map fun d => (⟨1, 11, ⟨#[]⟩, ⟨#[]⟩, h, n, 0, d, []⟩ : Lst) else none) else
  none
def armF (F : List ByteArray) : Option Lst := if (numsG [] (F.drop 1)).2 = true ∧ 1 ≤ (numsG [] (F.drop 1)).1.length ∧ (numsG [] (F.drop 1)).1.length ≤ 601 ∧ 1 ≤ (numsG [] (F.drop 1)).1.getD 0 0 then some ⟨4, 0, ⟨#[]⟩, ⟨#[]⟩, 0, 0, 0, ⟨#[]⟩, (numsG [] (F.drop 1)).1⟩ else none
def crashF (F : List ByteArray) : Option Lst := if (numsG [] (F.drop 1)).2 = true ∧ (numsG [] (F.drop 1)).1.length ≤ 600 then some ⟨5, 0, ⟨#[]⟩, ⟨#[]⟩, 0, 0, 0, ⟨#[]⟩, (numsG [] (F.drop 1)).1⟩ else none
def orF (a b : Option Lst) : Option Lst := match a with
  | some s => some s
  | none => b
def restF (F : List ByteArray) : Option Lst := orF (longF F) (hanF F)
def modelF (F : List ByteArray) : Option Lst :=
  if containsS F ⟨#[]⟩ = true then none else
  if F.length = 1 ∧ (F.getD 0 noText) = ⟨#[116, 114, 101, 101]⟩ then some ⟨2, 0, ⟨#[]⟩, ⟨#[]⟩, 0, 0, 0, ⟨#[]⟩, []⟩ else
  if F.length = 1 ∧ (F.getD 0 noText) = ⟨#[99, 104, 101, 99, 107]⟩ then some ⟨3, 0, ⟨#[]⟩, ⟨#[]⟩, 0, 0, 0, ⟨#[]⟩, []⟩ else
  if F.length = 1 ∧ (F.getD 0 noText) = ⟨#[109, 111, 117, 110, 116]⟩ then some ⟨6, 0, ⟨#[]⟩, ⟨#[]⟩, 0, 0, 0, ⟨#[]⟩, []⟩ else
  if F.length = 1 ∧ 0 < loneN (F.getD 0 noText) then some ⟨1, (loneN (F.getD 0 noText)), ⟨#[]⟩, ⟨#[]⟩, 0, 0, 0, ⟨#[]⟩, []⟩ else
  if F.length = 2 ∧ 0 < wordN (F.getD 0 noText) then some ⟨1, (wordN (F.getD 0 noText)), (F.getD 1 noText), ⟨#[]⟩, 0, 0, 0, ⟨#[]⟩, []⟩ else
  if (F.getD 0 noText) = ⟨#[99, 114, 97, 115, 104]⟩ then crashF F else
  if (F.getD 0 noText) = ⟨#[97, 114, 109]⟩ then armF F else
  restF F

end Go.Proofs.YtacfkgfemmgpkaaGreatDoor
