/-
  RecordScans: the walk (written by gen_recscans.py).
-/
import Derived.Test.YtjhpjhgofmlecaaDoorRecAwake
import Derived.Test.YtjhpjhgofmlecaaDoorRec8
namespace Go.Proofs.YtjhpjhgofmlecaaDoor
open Go.RowKit Go.Wag
set_option linter.unusedVariables false
set_option linter.unusedSimpArgs false

set_option maxRecDepth 100000 in
set_option maxHeartbeats 4000000 in
theorem RecordScans_walk (a0 : Option Addr) (len0 cap0 : Nat) (z0 : List Int) (w : World) (hT : Tab w) (w0 : IsRow .u8 w a0 len0 cap0 z0) :
    Calls Tryd.prog 5 #[.slice a0 len0 cap0] w (AwakePost w) := by
  obtain ⟨b, s0⟩ := w0.bytes
  clear w0
  by_cases g1 : (1000 : Int) < (len0 : Int)
  · go_enter Tryd.func5, Tryd.ntmps5
    go_wp2_with fail
    refine (awake5_any w hT).mono ?_
    rintro e w1 ⟨rfl, b1⟩
    go_wp2
    go_ret
    exact ⟨rfl, b1⟩
  go_enter Tryd.func5, Tryd.ntmps5
  go_wp2_with fail
  refine (awake5_any w hT).mono ?_
  rintro e w1 ⟨rfl, bb⟩
  replace hT := hT.below bb
  replace s0 := s0.below bb
  go_wp2_with fail
  have hC := rScan_any a0 len0 cap0 b w1 hT s0 (by omega)
  generalize hX : scF b 0 = xs at *
  replace hX := Lib.hid hX
  refine hC.mono ?_
  clear hC
  rintro e w2 ⟨A1, k1, c1, A2, c2, hk1, rfl, R1, N1, b2⟩
  have s1 : Sl w2 A2 k1 c2 ((xs.map fun x => ((x.2 : Nat) : Int)).map vint) := by rw [List.map_map]; exact N1.sl
  replace hk1 := Lib.hid hk1
  replace s0 := s0.below b2
  replace bb := bb.trans (b2.mono bb.size)
  clear b2 N1
  go_wp2_with fail
  have hC := xScan_any a0 len0 cap0 b w2 s0 (by omega)
  rw [hX.out] at hC
  refine hC.mono ?_
  clear hC
  rintro e w3 ⟨A3, k3, c3, A4, c4, hk3, rfl, R3, N3, b3⟩
  obtain rfl : k3 = k1 := hk3.trans hk1.out.symm
  have s3 : Sl w3 A4 k3 c4 ((xs.map fun x => ((x.2 : Nat) : Int)).map vint) := by rw [List.map_map]; exact N3.sl
  replace hk3 := Lib.hid hk3
  replace R1 := R1.below b3
  replace s1 := s1.below b3
  replace bb := bb.trans (b3.mono bb.size)
  clear b3 N3
  go_wp2_with fail
  refine (allSame_any _ A1 k3 c1 A3 c3 w3 R1 R3).mono ?_
  rintro e w4 ⟨rfl, b4⟩
  replace s1 := s1.below b4
  replace s3 := s3.below b4
  replace bb := bb.trans (b4.mono bb.size)
  clear b4 R1 R3
  go_wp2_with fail
  refine (numSame_any _ A2 k3 c2 A4 c4 w4 s1 s3).mono ?_
  rintro e w5 ⟨rfl, b5⟩
  replace bb := bb.trans (b5.mono bb.size)
  go_wp2
  go_ret
  exact ⟨rfl, bb⟩
end Go.Proofs.YtjhpjhgofmlecaaDoor
