/- string([]byte{c}), and small things. -/
import Derived.Test.YtjbdfooppokonaaDoorLab
import Derived.Test.YtjbdfooppokonaaDoorRows
import Derived.WalkSpells
import Derived.WalkLawsBesides
import Derived.RegionTactic
import Derived.ChangeAlike
import Derived.BigRegion
namespace Go.Proofs.YtjbdfooppokonaaDoor
open Go.RowKit

theorem conv_one (n : Int) (W : World) :
    (convert 79 9 (.slice (some ⟨W.heap.size, 0, none⟩) 1 1)).run Tryd.prog (W.alloc (.cells #[.int .u8 n] 5)) = .ok (.string ⟨#[UInt8.ofNat n.toNat]⟩) (W.alloc (.cells #[.int .u8 n] 5)) := by
  rw [run_convert_bytes_string _ 79 9 5 _ _ _ Tryd.underlying79 Tryd.underlying5 Tryd.underlying9]
  have hl := run_loadCells_list (P := Tryd.prog) (W.alloc (.cells #[.int .u8 n] 5)) ⟨W.heap.size, 0, none⟩ ([n].map (Value.int .u8)) (fun j v hj => cell_one_new W (.int .u8 n) 5 j v hj)
  rw [run_bytesToString _ _ 1 1 [n] hl]
  rfl

theorem conv_one_drew (n : Int) (W : World) :
    (convert 79 9 (.slice (some ⟨W.heap.size, 0, none⟩) 1 1)).run Tryd.prog (W.alloc (.cells #[.int .u8 n] 5)).drew = .ok (.string ⟨#[UInt8.ofNat n.toNat]⟩) (W.alloc (.cells #[.int .u8 n] 5)).drew :=
  conv_one n W.drew

theorem ret_str {a b : ByteArray} (h : a = b) : Ending.returned (.string a) = .returned (.string b) := by rw [h]

theorem byte_mod (n : Nat) : UInt8.ofNat (n % 256) = UInt8.ofNat n := by
  apply UInt8.toNat_inj.1
  simp

theorem ba_ext {a b : ByteArray} (h : a.data.toList = b.data.toList) : a = b := by
  apply ByteArray.ext
  exact Array.toList_inj.1 h

theorem size_list (s : ByteArray) : s.data.toList.length = s.size := by simp

end Go.Proofs.YtjbdfooppokonaaDoor
