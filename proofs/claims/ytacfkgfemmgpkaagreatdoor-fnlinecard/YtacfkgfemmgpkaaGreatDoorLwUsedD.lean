/- Several short texts in one: LwGood, LwUsedD. -/
import Derived.Test.YtacfkgfemmgpkaaGreatDoorLwSay
import Derived.Test.YtacfkgfemmgpkaaGreatDoorQuoteSpec
namespace Go.Proofs.YtacfkgfemmgpkaaGreatDoor
open Go.RowKit

/-- Fields with a blank between them. -/
def J : List ByteArray → ByteArray
  | [] => ⟨#[]⟩
  | [a] => a
  | a :: b :: r => a ++ (⟨#[32]⟩ ++ J (b :: r))
theorem app_assoc (a b c : ByteArray) : (a ++ b) ++ c = a ++ (b ++ c) := by
  apply ByteArray.ext
  simp only [ByteArray.data_append, Array.append_assoc]
/-- A call that can be said as a line, and the line's fields. -/
def GoodC (d : Lst) (F : List ByteArray) : Prop := ∀ P : Lst → List ByteArray → Prop,
  (P ⟨0, 22, ⟨#[]⟩, ⟨#[]⟩, 0, 0, 0, ⟨#[]⟩, []⟩ [⟨#[115, 121, 110, 99]⟩]) →
  (P ⟨0, 23, ⟨#[]⟩, ⟨#[]⟩, 0, 0, 0, ⟨#[]⟩, []⟩ [⟨#[99, 104, 101, 99, 107, 112, 111, 105, 110, 116]⟩]) →
  (P ⟨0, 24, ⟨#[]⟩, ⟨#[]⟩, 0, 0, 0, ⟨#[]⟩, []⟩ [⟨#[115, 112, 97, 99, 101]⟩]) →
  (P ⟨0, 25, ⟨#[]⟩, ⟨#[]⟩, 0, 0, 0, ⟨#[]⟩, []⟩ [⟨#[108, 111, 103]⟩]) →
  (∀ (p : ByteArray) (_ : Fld p) (_ : p.size ≤ 3000), P ⟨0, 1, p, ⟨#[]⟩, 0, 0, 0, ⟨#[]⟩, []⟩ [⟨#[99, 114, 101, 97, 116, 101]⟩, p]) →
  (∀ (p : ByteArray) (_ : Fld p) (_ : p.size ≤ 3000), P ⟨0, 2, p, ⟨#[]⟩, 0, 0, 0, ⟨#[]⟩, []⟩ [⟨#[109, 107, 100, 105, 114]⟩, p]) →
  (∀ (p : ByteArray) (_ : Fld p) (_ : p.size ≤ 3000), P ⟨0, 3, p, ⟨#[]⟩, 0, 0, 0, ⟨#[]⟩, []⟩ [⟨#[117, 110, 108, 105, 110, 107]⟩, p]) →
  (∀ (p : ByteArray) (_ : Fld p) (_ : p.size ≤ 3000), P ⟨0, 4, p, ⟨#[]⟩, 0, 0, 0, ⟨#[]⟩, []⟩ [⟨#[114, 109, 100, 105, 114]⟩, p]) →
  (∀ (p : ByteArray) (_ : Fld p) (_ : p.size ≤ 3000), P ⟨0, 14, p, ⟨#[]⟩, 0, 0, 0, ⟨#[]⟩, []⟩ [⟨#[111, 112, 101, 110]⟩, p]) →
  (∀ (p : ByteArray) (_ : Fld p) (_ : p.size ≤ 3000), P ⟨0, 18, p, ⟨#[]⟩, 0, 0, 0, ⟨#[]⟩, []⟩ [⟨#[115, 116, 97, 116]⟩, p]) →
  (∀ (p : ByteArray) (_ : Fld p) (_ : p.size ≤ 3000), P ⟨0, 19, p, ⟨#[]⟩, 0, 0, 0, ⟨#[]⟩, []⟩ [⟨#[108, 115, 116, 97, 116]⟩, p]) →
  (∀ (p : ByteArray) (_ : Fld p) (_ : p.size ≤ 3000), P ⟨0, 20, p, ⟨#[]⟩, 0, 0, 0, ⟨#[]⟩, []⟩ [⟨#[108, 105, 115, 116]⟩, p]) →
  (∀ (p : ByteArray) (_ : Fld p) (_ : p.size ≤ 3000), P ⟨0, 21, p, ⟨#[]⟩, 0, 0, 0, ⟨#[]⟩, []⟩ [⟨#[114, 101, 97, 100, 108, 105, 110, 107]⟩, p]) →
  (∀ (p : ByteArray) (_ : Fld p) (_ : p.size ≤ 3000) (t : ByteArray) (_ : Fld t) (_ : t.size ≤ 3000), P ⟨0, 5, p, t, 0, 0, 0, ⟨#[]⟩, []⟩ [⟨#[114, 101, 110, 97, 109, 101]⟩, p, t]) →
  (∀ (p : ByteArray) (_ : Fld p) (_ : p.size ≤ 3000) (t : ByteArray) (_ : Fld t) (_ : t.size ≤ 3000), P ⟨0, 9, p, t, 0, 0, 0, ⟨#[]⟩, []⟩ [⟨#[108, 105, 110, 107]⟩, p, t]) →
  (∀ (p : ByteArray) (_ : Fld p) (_ : p.size ≤ 3000) (t : ByteArray) (_ : Fld t) (_ : t.size ≤ 3000), P ⟨0, 10, p, t, 0, 0, 0, ⟨#[]⟩, []⟩ [⟨#[115, 121, 109, 108, 105, 110, 107]⟩, p, t]) →
  (∀ (p : ByteArray) (_ : Fld p) (_ : p.size ≤ 3000) (d : ByteArray) (_ : d.size ≤ 3000), P ⟨0, 8, p, ⟨#[]⟩, 0, 0, 0, d, []⟩ [⟨#[97, 112, 112, 101, 110, 100]⟩, p, (quoV d)]) →
  (∀ (p : ByteArray) (_ : Fld p) (_ : p.size ≤ 3000) (o : Int) (_ : -1000000000 < o) (_ : o < 1000000000) (d : ByteArray) (_ : d.size ≤ 3000), P ⟨0, 6, p, ⟨#[]⟩, 0, o, 0, d, []⟩ [⟨#[119, 114, 105, 116, 101]⟩, p, (dec o), (quoV d)]) →
  (∀ (p : ByteArray) (_ : Fld p) (_ : p.size ≤ 3000) (z : Int) (_ : -1000000000 < z) (_ : z < 1000000000), P ⟨0, 7, p, ⟨#[]⟩, 0, 0, z, ⟨#[]⟩, []⟩ [⟨#[116, 114, 117, 110, 99]⟩, p, (dec z)]) →
  (∀ (p : ByteArray) (_ : Fld p) (_ : p.size ≤ 3000) (o : Int) (_ : -1000000000 < o) (_ : o < 1000000000) (z : Int) (_ : -1000000000 < z) (_ : z < 1000000000), P ⟨0, 17, p, ⟨#[]⟩, 0, o, z, ⟨#[]⟩, []⟩ [⟨#[114, 101, 97, 100]⟩, p, (dec o), (dec z)]) →
  (∀ (h : Int) (_ : -1000000000 < h) (_ : h < 1000000000), P ⟨0, 13, ⟨#[]⟩, ⟨#[]⟩, h, 0, 0, ⟨#[]⟩, []⟩ [⟨#[99, 108, 111, 115, 101]⟩, (dec h)]) →
  (∀ (h : Int) (_ : -1000000000 < h) (_ : h < 1000000000), P ⟨0, 16, ⟨#[]⟩, ⟨#[]⟩, h, 0, 0, ⟨#[]⟩, []⟩ [⟨#[102, 115, 116, 97, 116]⟩, (dec h)]) →
  (∀ (h : Int) (_ : -1000000000 < h) (_ : h < 1000000000) (z : Int) (_ : -1000000000 < z) (_ : z < 1000000000), P ⟨0, 12, ⟨#[]⟩, ⟨#[]⟩, h, 0, z, ⟨#[]⟩, []⟩ [⟨#[102, 116, 114, 117, 110, 99]⟩, (dec h), (dec z)]) →
  (∀ (h : Int) (_ : -1000000000 < h) (_ : h < 1000000000) (o : Int) (_ : -1000000000 < o) (_ : o < 1000000000) (z : Int) (_ : -1000000000 < z) (_ : z < 1000000000), P ⟨0, 15, ⟨#[]⟩, ⟨#[]⟩, h, o, z, ⟨#[]⟩, []⟩ [⟨#[112, 114, 101, 97, 100]⟩, (dec h), (dec o), (dec z)]) →
  (∀ (h : Int) (_ : -1000000000 < h) (_ : h < 1000000000) (o : Int) (_ : -1000000000 < o) (_ : o < 1000000000) (d : ByteArray) (_ : d.size ≤ 3000), P ⟨0, 11, ⟨#[]⟩, ⟨#[]⟩, h, o, 0, d, []⟩ [⟨#[112, 119, 114, 105, 116, 101]⟩, (dec h), (dec o), (quoV d)]) →
  P d F
theorem GoodC.sync' : GoodC ⟨0, 22, ⟨#[]⟩, ⟨#[]⟩, 0, 0, 0, ⟨#[]⟩, []⟩ [⟨#[115, 121, 110, 99]⟩] := fun _ x _ _ _ _ _ _ _ _ _ _ _ _ _ _ _ _ _ _ _ _ _ _ _ _ => x
theorem GoodC.checkpoint' : GoodC ⟨0, 23, ⟨#[]⟩, ⟨#[]⟩, 0, 0, 0, ⟨#[]⟩, []⟩ [⟨#[99, 104, 101, 99, 107, 112, 111, 105, 110, 116]⟩] := fun _ _ x _ _ _ _ _ _ _ _ _ _ _ _ _ _ _ _ _ _ _ _ _ _ _ => x
theorem GoodC.space' : GoodC ⟨0, 24, ⟨#[]⟩, ⟨#[]⟩, 0, 0, 0, ⟨#[]⟩, []⟩ [⟨#[115, 112, 97, 99, 101]⟩] := fun _ _ _ x _ _ _ _ _ _ _ _ _ _ _ _ _ _ _ _ _ _ _ _ _ _ => x
theorem GoodC.log' : GoodC ⟨0, 25, ⟨#[]⟩, ⟨#[]⟩, 0, 0, 0, ⟨#[]⟩, []⟩ [⟨#[108, 111, 103]⟩] := fun _ _ _ _ x _ _ _ _ _ _ _ _ _ _ _ _ _ _ _ _ _ _ _ _ _ => x
theorem GoodC.create' (p : ByteArray) (hp : Fld p) (hps : p.size ≤ 3000) : GoodC ⟨0, 1, p, ⟨#[]⟩, 0, 0, 0, ⟨#[]⟩, []⟩ [⟨#[99, 114, 101, 97, 116, 101]⟩, p] := fun _ _ _ _ _ x _ _ _ _ _ _ _ _ _ _ _ _ _ _ _ _ _ _ _ _ => x p hp hps
theorem GoodC.mkdir' (p : ByteArray) (hp : Fld p) (hps : p.size ≤ 3000) : GoodC ⟨0, 2, p, ⟨#[]⟩, 0, 0, 0, ⟨#[]⟩, []⟩ [⟨#[109, 107, 100, 105, 114]⟩, p] := fun _ _ _ _ _ _ x _ _ _ _ _ _ _ _ _ _ _ _ _ _ _ _ _ _ _ => x p hp hps
theorem GoodC.unlink' (p : ByteArray) (hp : Fld p) (hps : p.size ≤ 3000) : GoodC ⟨0, 3, p, ⟨#[]⟩, 0, 0, 0, ⟨#[]⟩, []⟩ [⟨#[117, 110, 108, 105, 110, 107]⟩, p] := fun _ _ _ _ _ _ _ x _ _ _ _ _ _ _ _ _ _ _ _ _ _ _ _ _ _ => x p hp hps
theorem GoodC.rmdir' (p : ByteArray) (hp : Fld p) (hps : p.size ≤ 3000) : GoodC ⟨0, 4, p, ⟨#[]⟩, 0, 0, 0, ⟨#[]⟩, []⟩ [⟨#[114, 109, 100, 105, 114]⟩, p] := fun _ _ _ _ _ _ _ _ x _ _ _ _ _ _ _ _ _ _ _ _ _ _ _ _ _ => x p hp hps
theorem GoodC.open' (p : ByteArray) (hp : Fld p) (hps : p.size ≤ 3000) : GoodC ⟨0, 14, p, ⟨#[]⟩, 0, 0, 0, ⟨#[]⟩, []⟩ [⟨#[111, 112, 101, 110]⟩, p] := fun _ _ _ _ _ _ _ _ _ x _ _ _ _ _ _ _ _ _ _ _ _ _ _ _ _ => x p hp hps
theorem GoodC.stat' (p : ByteArray) (hp : Fld p) (hps : p.size ≤ 3000) : GoodC ⟨0, 18, p, ⟨#[]⟩, 0, 0, 0, ⟨#[]⟩, []⟩ [⟨#[115, 116, 97, 116]⟩, p] := fun _ _ _ _ _ _ _ _ _ _ x _ _ _ _ _ _ _ _ _ _ _ _ _ _ _ => x p hp hps
theorem GoodC.lstat' (p : ByteArray) (hp : Fld p) (hps : p.size ≤ 3000) : GoodC ⟨0, 19, p, ⟨#[]⟩, 0, 0, 0, ⟨#[]⟩, []⟩ [⟨#[108, 115, 116, 97, 116]⟩, p] := fun _ _ _ _ _ _ _ _ _ _ _ x _ _ _ _ _ _ _ _ _ _ _ _ _ _ => x p hp hps
theorem GoodC.list' (p : ByteArray) (hp : Fld p) (hps : p.size ≤ 3000) : GoodC ⟨0, 20, p, ⟨#[]⟩, 0, 0, 0, ⟨#[]⟩, []⟩ [⟨#[108, 105, 115, 116]⟩, p] := fun _ _ _ _ _ _ _ _ _ _ _ _ x _ _ _ _ _ _ _ _ _ _ _ _ _ => x p hp hps
theorem GoodC.readlink' (p : ByteArray) (hp : Fld p) (hps : p.size ≤ 3000) : GoodC ⟨0, 21, p, ⟨#[]⟩, 0, 0, 0, ⟨#[]⟩, []⟩ [⟨#[114, 101, 97, 100, 108, 105, 110, 107]⟩, p] := fun _ _ _ _ _ _ _ _ _ _ _ _ _ x _ _ _ _ _ _ _ _ _ _ _ _ => x p hp hps
theorem GoodC.rename' (p : ByteArray) (hp : Fld p) (hps : p.size ≤ 3000) (t : ByteArray) (ht : Fld t) (hts : t.size ≤ 3000) : GoodC ⟨0, 5, p, t, 0, 0, 0, ⟨#[]⟩, []⟩ [⟨#[114, 101, 110, 97, 109, 101]⟩, p, t] := fun _ _ _ _ _ _ _ _ _ _ _ _ _ _ x _ _ _ _ _ _ _ _ _ _ _ => x p hp hps t ht hts
theorem GoodC.link' (p : ByteArray) (hp : Fld p) (hps : p.size ≤ 3000) (t : ByteArray) (ht : Fld t) (hts : t.size ≤ 3000) : GoodC ⟨0, 9, p, t, 0, 0, 0, ⟨#[]⟩, []⟩ [⟨#[108, 105, 110, 107]⟩, p, t] := fun _ _ _ _ _ _ _ _ _ _ _ _ _ _ _ x _ _ _ _ _ _ _ _ _ _ => x p hp hps t ht hts
theorem GoodC.symlink' (p : ByteArray) (hp : Fld p) (hps : p.size ≤ 3000) (t : ByteArray) (ht : Fld t) (hts : t.size ≤ 3000) : GoodC ⟨0, 10, p, t, 0, 0, 0, ⟨#[]⟩, []⟩ [⟨#[115, 121, 109, 108, 105, 110, 107]⟩, p, t] := fun _ _ _ _ _ _ _ _ _ _ _ _ _ _ _ _ x _ _ _ _ _ _ _ _ _ => x p hp hps t ht hts
theorem GoodC.append' (p : ByteArray) (hp : Fld p) (hps : p.size ≤ 3000) (d : ByteArray) (hds : d.size ≤ 3000) : GoodC ⟨0, 8, p, ⟨#[]⟩, 0, 0, 0, d, []⟩ [⟨#[97, 112, 112, 101, 110, 100]⟩, p, (quoV d)] := fun _ _ _ _ _ _ _ _ _ _ _ _ _ _ _ _ _ x _ _ _ _ _ _ _ _ => x p hp hps d hds
theorem GoodC.write' (p : ByteArray) (hp : Fld p) (hps : p.size ≤ 3000) (o : Int) (ho : -1000000000 < o) (hos : o < 1000000000) (d : ByteArray) (hds : d.size ≤ 3000) : GoodC ⟨0, 6, p, ⟨#[]⟩, 0, o, 0, d, []⟩ [⟨#[119, 114, 105, 116, 101]⟩, p, (dec o), (quoV d)] := fun _ _ _ _ _ _ _ _ _ _ _ _ _ _ _ _ _ _ x _ _ _ _ _ _ _ => x p hp hps o ho hos d hds
theorem GoodC.trunc' (p : ByteArray) (hp : Fld p) (hps : p.size ≤ 3000) (z : Int) (hz : -1000000000 < z) (hzs : z < 1000000000) : GoodC ⟨0, 7, p, ⟨#[]⟩, 0, 0, z, ⟨#[]⟩, []⟩ [⟨#[116, 114, 117, 110, 99]⟩, p, (dec z)] := fun _ _ _ _ _ _ _ _ _ _ _ _ _ _ _ _ _ _ _ x _ _ _ _ _ _ => x p hp hps z hz hzs
theorem GoodC.read' (p : ByteArray) (hp : Fld p) (hps : p.size ≤ 3000) (o : Int) (ho : -1000000000 < o) (hos : o < 1000000000) (z : Int) (hz : -1000000000 < z) (hzs : z < 1000000000) : GoodC ⟨0, 17, p, ⟨#[]⟩, 0, o, z, ⟨#[]⟩, []⟩ [⟨#[114, 101, 97, 100]⟩, p, (dec o), (dec z)] := fun _ _ _ _ _ _ _ _ _ _ _ _ _ _ _ _ _ _ _ _ x _ _ _ _ _ => x p hp hps o ho hos z hz hzs
theorem GoodC.close' (h : Int) (hh : -1000000000 < h) (hhs : h < 1000000000) : GoodC ⟨0, 13, ⟨#[]⟩, ⟨#[]⟩, h, 0, 0, ⟨#[]⟩, []⟩ [⟨#[99, 108, 111, 115, 101]⟩, (dec h)] := fun _ _ _ _ _ _ _ _ _ _ _ _ _ _ _ _ _ _ _ _ _ x _ _ _ _ => x h hh hhs
theorem GoodC.fstat' (h : Int) (hh : -1000000000 < h) (hhs : h < 1000000000) : GoodC ⟨0, 16, ⟨#[]⟩, ⟨#[]⟩, h, 0, 0, ⟨#[]⟩, []⟩ [⟨#[102, 115, 116, 97, 116]⟩, (dec h)] := fun _ _ _ _ _ _ _ _ _ _ _ _ _ _ _ _ _ _ _ _ _ _ x _ _ _ => x h hh hhs
theorem GoodC.ftrunc' (h : Int) (hh : -1000000000 < h) (hhs : h < 1000000000) (z : Int) (hz : -1000000000 < z) (hzs : z < 1000000000) : GoodC ⟨0, 12, ⟨#[]⟩, ⟨#[]⟩, h, 0, z, ⟨#[]⟩, []⟩ [⟨#[102, 116, 114, 117, 110, 99]⟩, (dec h), (dec z)] := fun _ _ _ _ _ _ _ _ _ _ _ _ _ _ _ _ _ _ _ _ _ _ _ x _ _ => x h hh hhs z hz hzs
theorem GoodC.pread' (h : Int) (hh : -1000000000 < h) (hhs : h < 1000000000) (o : Int) (ho : -1000000000 < o) (hos : o < 1000000000) (z : Int) (hz : -1000000000 < z) (hzs : z < 1000000000) : GoodC ⟨0, 15, ⟨#[]⟩, ⟨#[]⟩, h, o, z, ⟨#[]⟩, []⟩ [⟨#[112, 114, 101, 97, 100]⟩, (dec h), (dec o), (dec z)] := fun _ _ _ _ _ _ _ _ _ _ _ _ _ _ _ _ _ _ _ _ _ _ _ _ x _ => x h hh hhs o ho hos z hz hzs
theorem GoodC.pwrite' (h : Int) (hh : -1000000000 < h) (hhs : h < 1000000000) (o : Int) (ho : -1000000000 < o) (hos : o < 1000000000) (d : ByteArray) (hds : d.size ≤ 3000) : GoodC ⟨0, 11, ⟨#[]⟩, ⟨#[]⟩, h, o, 0, d, []⟩ [⟨#[112, 119, 114, 105, 116, 101]⟩, (dec h), (dec o), (quoV d)] := fun _ _ _ _ _ _ _ _ _ _ _ _ _ _ _ _ _ _ _ _ _ _ _ _ _ x => x h hh hhs o ho hos d hds
theorem GoodC.el {d : Lst} {F : List ByteArray} {P : Lst → List ByteArray → Prop} (h : GoodC d F)
    (sync' : P ⟨0, 22, ⟨#[]⟩, ⟨#[]⟩, 0, 0, 0, ⟨#[]⟩, []⟩ [⟨#[115, 121, 110, 99]⟩])
    (checkpoint' : P ⟨0, 23, ⟨#[]⟩, ⟨#[]⟩, 0, 0, 0, ⟨#[]⟩, []⟩ [⟨#[99, 104, 101, 99, 107, 112, 111, 105, 110, 116]⟩])
    (space' : P ⟨0, 24, ⟨#[]⟩, ⟨#[]⟩, 0, 0, 0, ⟨#[]⟩, []⟩ [⟨#[115, 112, 97, 99, 101]⟩])
    (log' : P ⟨0, 25, ⟨#[]⟩, ⟨#[]⟩, 0, 0, 0, ⟨#[]⟩, []⟩ [⟨#[108, 111, 103]⟩])
    (create' : ∀ (p : ByteArray) (_ : Fld p) (_ : p.size ≤ 3000), P ⟨0, 1, p, ⟨#[]⟩, 0, 0, 0, ⟨#[]⟩, []⟩ [⟨#[99, 114, 101, 97, 116, 101]⟩, p])
    (mkdir' : ∀ (p : ByteArray) (_ : Fld p) (_ : p.size ≤ 3000), P ⟨0, 2, p, ⟨#[]⟩, 0, 0, 0, ⟨#[]⟩, []⟩ [⟨#[109, 107, 100, 105, 114]⟩, p])
    (unlink' : ∀ (p : ByteArray) (_ : Fld p) (_ : p.size ≤ 3000), P ⟨0, 3, p, ⟨#[]⟩, 0, 0, 0, ⟨#[]⟩, []⟩ [⟨#[117, 110, 108, 105, 110, 107]⟩, p])
    (rmdir' : ∀ (p : ByteArray) (_ : Fld p) (_ : p.size ≤ 3000), P ⟨0, 4, p, ⟨#[]⟩, 0, 0, 0, ⟨#[]⟩, []⟩ [⟨#[114, 109, 100, 105, 114]⟩, p])
    (open' : ∀ (p : ByteArray) (_ : Fld p) (_ : p.size ≤ 3000), P ⟨0, 14, p, ⟨#[]⟩, 0, 0, 0, ⟨#[]⟩, []⟩ [⟨#[111, 112, 101, 110]⟩, p])
    (stat' : ∀ (p : ByteArray) (_ : Fld p) (_ : p.size ≤ 3000), P ⟨0, 18, p, ⟨#[]⟩, 0, 0, 0, ⟨#[]⟩, []⟩ [⟨#[115, 116, 97, 116]⟩, p])
    (lstat' : ∀ (p : ByteArray) (_ : Fld p) (_ : p.size ≤ 3000), P ⟨0, 19, p, ⟨#[]⟩, 0, 0, 0, ⟨#[]⟩, []⟩ [⟨#[108, 115, 116, 97, 116]⟩, p])
    (list' : ∀ (p : ByteArray) (_ : Fld p) (_ : p.size ≤ 3000), P ⟨0, 20, p, ⟨#[]⟩, 0, 0, 0, ⟨#[]⟩, []⟩ [⟨#[108, 105, 115, 116]⟩, p])
    (readlink' : ∀ (p : ByteArray) (_ : Fld p) (_ : p.size ≤ 3000), P ⟨0, 21, p, ⟨#[]⟩, 0, 0, 0, ⟨#[]⟩, []⟩ [⟨#[114, 101, 97, 100, 108, 105, 110, 107]⟩, p])
    (rename' : ∀ (p : ByteArray) (_ : Fld p) (_ : p.size ≤ 3000) (t : ByteArray) (_ : Fld t) (_ : t.size ≤ 3000), P ⟨0, 5, p, t, 0, 0, 0, ⟨#[]⟩, []⟩ [⟨#[114, 101, 110, 97, 109, 101]⟩, p, t])
    (link' : ∀ (p : ByteArray) (_ : Fld p) (_ : p.size ≤ 3000) (t : ByteArray) (_ : Fld t) (_ : t.size ≤ 3000), P ⟨0, 9, p, t, 0, 0, 0, ⟨#[]⟩, []⟩ [⟨#[108, 105, 110, 107]⟩, p, t])
    (symlink' : ∀ (p : ByteArray) (_ : Fld p) (_ : p.size ≤ 3000) (t : ByteArray) (_ : Fld t) (_ : t.size ≤ 3000), P ⟨0, 10, p, t, 0, 0, 0, ⟨#[]⟩, []⟩ [⟨#[115, 121, 109, 108, 105, 110, 107]⟩, p, t])
    (append' : ∀ (p : ByteArray) (_ : Fld p) (_ : p.size ≤ 3000) (d : ByteArray) (_ : d.size ≤ 3000), P ⟨0, 8, p, ⟨#[]⟩, 0, 0, 0, d, []⟩ [⟨#[97, 112, 112, 101, 110, 100]⟩, p, (quoV d)])
    (write' : ∀ (p : ByteArray) (_ : Fld p) (_ : p.size ≤ 3000) (o : Int) (_ : -1000000000 < o) (_ : o < 1000000000) (d : ByteArray) (_ : d.size ≤ 3000), P ⟨0, 6, p, ⟨#[]⟩, 0, o, 0, d, []⟩ [⟨#[119, 114, 105, 116, 101]⟩, p, (dec o), (quoV d)])
    (trunc' : ∀ (p : ByteArray) (_ : Fld p) (_ : p.size ≤ 3000) (z : Int) (_ : -1000000000 < z) (_ : z < 1000000000), P ⟨0, 7, p, ⟨#[]⟩, 0, 0, z, ⟨#[]⟩, []⟩ [⟨#[116, 114, 117, 110, 99]⟩, p, (dec z)])
    (read' : ∀ (p : ByteArray) (_ : Fld p) (_ : p.size ≤ 3000) (o : Int) (_ : -1000000000 < o) (_ : o < 1000000000) (z : Int) (_ : -1000000000 < z) (_ : z < 1000000000), P ⟨0, 17, p, ⟨#[]⟩, 0, o, z, ⟨#[]⟩, []⟩ [⟨#[114, 101, 97, 100]⟩, p, (dec o), (dec z)])
    (close' : ∀ (h : Int) (_ : -1000000000 < h) (_ : h < 1000000000), P ⟨0, 13, ⟨#[]⟩, ⟨#[]⟩, h, 0, 0, ⟨#[]⟩, []⟩ [⟨#[99, 108, 111, 115, 101]⟩, (dec h)])
    (fstat' : ∀ (h : Int) (_ : -1000000000 < h) (_ : h < 1000000000), P ⟨0, 16, ⟨#[]⟩, ⟨#[]⟩, h, 0, 0, ⟨#[]⟩, []⟩ [⟨#[102, 115, 116, 97, 116]⟩, (dec h)])
    (ftrunc' : ∀ (h : Int) (_ : -1000000000 < h) (_ : h < 1000000000) (z : Int) (_ : -1000000000 < z) (_ : z < 1000000000), P ⟨0, 12, ⟨#[]⟩, ⟨#[]⟩, h, 0, z, ⟨#[]⟩, []⟩ [⟨#[102, 116, 114, 117, 110, 99]⟩, (dec h), (dec z)])
    (pread' : ∀ (h : Int) (_ : -1000000000 < h) (_ : h < 1000000000) (o : Int) (_ : -1000000000 < o) (_ : o < 1000000000) (z : Int) (_ : -1000000000 < z) (_ : z < 1000000000), P ⟨0, 15, ⟨#[]⟩, ⟨#[]⟩, h, o, z, ⟨#[]⟩, []⟩ [⟨#[112, 114, 101, 97, 100]⟩, (dec h), (dec o), (dec z)])
    (pwrite' : ∀ (h : Int) (_ : -1000000000 < h) (_ : h < 1000000000) (o : Int) (_ : -1000000000 < o) (_ : o < 1000000000) (d : ByteArray) (_ : d.size ≤ 3000), P ⟨0, 11, ⟨#[]⟩, ⟨#[]⟩, h, o, 0, d, []⟩ [⟨#[112, 119, 114, 105, 116, 101]⟩, (dec h), (dec o), (quoV d)])
    : P d F := h P sync' checkpoint' space' log' create' mkdir' unlink' rmdir' open' stat' lstat' list' readlink' rename' link' symlink' append' write' trunc' read' close' fstat' ftrunc' pread' pwrite'

theorem quoV_le {d : ByteArray} (h : d.size ≤ 3000) : (quoV d).size ≤ 20000 := by
  unfold quoV
  rw [if_neg (by omega)]
  split
  · decide
  · rw [strOfNums_size]
    have := quoL_len d d.size
    omega
theorem view_i1 (W : World) (a : Int) : View (W.alloc (.cells #[.int .i64 a] 2)) W.heap.size (W.heap.size + 1) .i64 (.slice (some ⟨W.heap.size, 0, none⟩) 1 1) [a] := by
  refine ⟨_, 1, rfl, by simp, ⟨by simp, by simp⟩, Or.inr ⟨W.heap.size, 0, rfl, Nat.le_refl _, Nat.lt_succ_self _, fun i hi => ?_⟩⟩
  have : i = 0 := by simpa using hi
  subst this
  rw [Lib.cell_of_heap (heap_new W _)]; rfl
theorem view_i2 (W : World) (a b : Int) : View (W.alloc (.cells #[.int .i64 a, .int .i64 b] 2)) W.heap.size (W.heap.size + 1) .i64 (.slice (some ⟨W.heap.size, 0, none⟩) 2 2) [a, b] := by
  refine ⟨_, 2, rfl, by simp, ⟨by simp, by simp⟩, Or.inr ⟨W.heap.size, 0, rfl, Nat.le_refl _, Nat.lt_succ_self _, fun i hi => ?_⟩⟩
  have : i = 0 ∨ i = 1 := by have : i < 2 := hi; omega
  rcases this with rfl | rfl <;> (rw [Lib.cell_of_heap (heap_new W _)]; rfl)
theorem view_i3 (W : World) (a b c : Int) : View (W.alloc (.cells #[.int .i64 a, .int .i64 b, .int .i64 c] 2)) W.heap.size (W.heap.size + 1) .i64 (.slice (some ⟨W.heap.size, 0, none⟩) 3 3) [a, b, c] := by
  refine ⟨_, 3, rfl, by simp, ⟨by simp, by simp⟩, Or.inr ⟨W.heap.size, 0, rfl, Nat.le_refl _, Nat.lt_succ_self _, fun i hi => ?_⟩⟩
  have : i = 0 ∨ i = 1 ∨ i = 2 := by have : i < 3 := hi; omega
  rcases this with rfl | rfl | rfl <;> (rw [Lib.cell_of_heap (heap_new W _)]; rfl)
theorem say_1 (word : ByteArray) (a : Int) : say word [a] = J [word, dec a] := rfl
theorem say_2 (word : ByteArray) (a b : Int) : say word [a, b] = J [word, dec a, dec b] := by
  show (word ++ (⟨#[32]⟩ ++ dec a)) ++ (⟨#[32]⟩ ++ dec b) = _
  rw [app_assoc, app_assoc]; rfl
theorem say_3 (word : ByteArray) (a b c : Int) : say word [a, b, c] = J [word, dec a, dec b, dec c] := by
  show ((word ++ (⟨#[32]⟩ ++ dec a)) ++ (⟨#[32]⟩ ++ dec b)) ++ (⟨#[32]⟩ ++ dec c) = _
  rw [app_assoc, app_assoc, app_assoc, app_assoc]; rfl
/-- A word and a blank, then more fields. -/
theorem J_word (a a' : ByteArray) (h : a' = a ++ ⟨#[32]⟩) (b : ByteArray) : a' ++ b = J [a, b] := by rw [h, app_assoc]; rfl
theorem J_more (a b c : ByteArray) : (J [a, b] ++ ⟨#[32]⟩) ++ c = J [a, b, c] := by
  show ((a ++ (⟨#[32]⟩ ++ b)) ++ ⟨#[32]⟩) ++ c = a ++ (⟨#[32]⟩ ++ (b ++ (⟨#[32]⟩ ++ c)))
  simp only [app_assoc]

end Go.Proofs.YtacfkgfemmgpkaaGreatDoor

namespace Go.Proofs.YtacfkgfemmgpkaaGreatDoor
open Go.RowKit

def UsedPost (w : World) (e : Ending) (w' : World) : Prop := ∃ (d : Lst) (b : Bool), e = .returned (.tuple #[.agg (cA d), .bool b]) ∧ (b = true → ∃ F, GoodC d F) ∧ Chg 0 0 w w'

end Go.Proofs.YtacfkgfemmgpkaaGreatDoor
