/- What the texts of package code's document (XCodeD, XCodeE, XCodeG) want, for package model. -/
import Derived.Test.YtbkadfdpboghiaaDoorModEvents
import Derived.Test.YtbkadfdpboghiaaDoorPhase
namespace Go.Proofs.YtbkadfdpboghiaaDoor
open Go.RowKit Go.Maps

theorem tx_size (l : Bs) : (tx l).size = l.length := by simp [tx, ByteArray.size]
theorem tx_toList (l : Bs) : (tx l).toList = l := ByteArray.toList_mk l
def wordOf (op : Int) : Bs := wordK (opK op)
def manyOf (op : Int) : Nat := manyK (opK op)
end Go.Proofs.YtbkadfdpboghiaaDoor
