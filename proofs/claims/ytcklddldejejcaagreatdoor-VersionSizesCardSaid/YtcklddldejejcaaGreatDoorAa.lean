/- Short names. -/
import Derived.Lib.Hide
import Derived.Laws.Rows
import Derived.Below
namespace Go.Proofs.YtcklddldejejcaaGreatDoor
open Go Go.RowKit
universe u
theorem Hh {p:Prop} (h:p):RowKit.Hid p:=Lib.hid h
theorem Hn (w:World) (o:Obj):(w.alloc o).heap[w.heap.size]?=some o:=heap_alloc_new w o
theorem Lr (n:Nat):n≤n:=Nat.le_refl n
theorem Ll {a b c:Nat} (h:a<b) (k:b≤c):a<c:=Nat.lt_of_lt_of_le h k
theorem Br (B:Nat) (w:World):Below B w w:=Below.refl B w
theorem Ai {a b:Prop} (h:a) (k:b):a∧b:=And.intro h k
theorem Lg {α:Type u} {a b:List α}:(a ++ b).length=a.length+b.length:=List.length_append
theorem Al {w w':World} {o:Obj} (h:w.alloc o=w'):Below w.heap.size w w'∧w'.heap[w.heap.size]?=some o:=by
 subst h
 exact ⟨(Below.refl _ w).alloc (Nat.le_refl _) o,heap_alloc_new w o⟩
end Go.Proofs.YtcklddldejejcaaGreatDoor
