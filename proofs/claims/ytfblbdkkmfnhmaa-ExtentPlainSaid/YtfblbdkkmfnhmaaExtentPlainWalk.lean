/-
  ExtentPlain: the walk (written by gen_extplain.py).
-/
import Derived.Test.YtfblbdkkmfnhmaaExtAwake
import Derived.Test.YtfblbdkkmfnhmaaArgs
namespace Go.Proofs.Ytfblbdkkmfnhmaa
open Go.RowKit Go.Wag
set_option linter.unusedVariables false
set_option linter.unusedSimpArgs false
/-- Bytes of an extent that is no data are noughts. -/
theorem plain_zero {x : Xp} (hk : x.k ≠ 2) {i : Nat} {v : UInt8} (h : (xbytes x)[i]? = some v) : v = 0 := by
  unfold xbytes at h
  split at h
  · unfold xby at h
    rw [if_neg hk] at h
    exact (List.mem_replicate.1 (List.mem_iff_getElem?.2 ⟨i, h⟩)).2
  · simp at h
theorem ba_app (a b : List UInt8) : (⟨a.toArray⟩ : ByteArray) ++ ⟨b.toArray⟩ = ⟨(a ++ b).toArray⟩ := by
  apply ByteArray.ext
  simp
theorem xby_max (x : Xp) : (xbytes x).length ≤ 2048 := by
  cases h : x.ok
  · rw [xbytes_no h]
    simp
  · rw [xbytes_yes h]
    have h1 := xby_length h
    have h2 := Xp.all h
    omega
set_option maxRecDepth 100000 in
set_option maxHeartbeats 8000000 in
theorem plain_core (la1 n1 k1 g1 : Int) (A1 : Option Addr) (m1 c1 : Nat) (l1 : List UInt8) (la2 n2 k2 g2 : Int) (A2 : Option Addr) (m2 c2 : Nat) (l2 : List UInt8) (w : World) (hla1 : la1 ≤ 9223372036854775807) (hla2 : la2 ≤ 9223372036854775807) (h1 : Sl w A1 m1 c1 (l1.map v8)) (h2 : Sl w A2 m2 c2 (l2.map v8)) :
    Calls Try.prog 11 #[.agg #[.int .i64 la1, .int .i64 n1, .int .i64 k1, .int .i64 g1, .slice A1 m1 c1], .agg #[.int .i64 la2, .int .i64 n2, .int .i64 k2, .int .i64 g2, .slice A2 m2 c2]] w (AwakePost w) := by
  have e1 : l1.length = m1 := h1.len8
  have e2 : l2.length = m2 := h2.len8
  by_cases hm1 : (m1 : Int) > 3000
  · skip
    have bb := Below.refl w.heap.size w
    have S1 := h1
    have S2 := h2
    go_enter Try.func11, Try.ntmps11
    replace S1 := S1.alloc (.cells #[.int .i64 la1, .int .i64 n1, .int .i64 k1, .int .i64 g1, .slice A1 m1 c1] 25)
    replace S2 := S2.alloc (.cells #[.int .i64 la1, .int .i64 n1, .int .i64 k1, .int .i64 g1, .slice A1 m1 c1] 25)
    replace bb := bb.alloc bb.size (.cells #[.int .i64 la1, .int .i64 n1, .int .i64 k1, .int .i64 g1, .slice A1 m1 c1] 25)
    have Vx := Blk.new w #[.int .i64 la1, .int .i64 n1, .int .i64 k1, .int .i64 g1, .slice A1 m1 c1] 25
    replace S1 := S1.alloc (.cells #[.int .i64 la2, .int .i64 n2, .int .i64 k2, .int .i64 g2, .slice A2 m2 c2] 25)
    replace S2 := S2.alloc (.cells #[.int .i64 la2, .int .i64 n2, .int .i64 k2, .int .i64 g2, .slice A2 m2 c2] 25)
    replace Vx := Vx.alloc (.cells #[.int .i64 la2, .int .i64 n2, .int .i64 k2, .int .i64 g2, .slice A2 m2 c2] 25)
    replace bb := bb.alloc bb.size (.cells #[.int .i64 la2, .int .i64 n2, .int .i64 k2, .int .i64 g2, .slice A2 m2 c2] 25)
    have Vy := Blk.new (w.alloc (.cells #[.int .i64 la1, .int .i64 n1, .int .i64 k1, .int .i64 g1, .slice A1 m1 c1] 25)) #[.int .i64 la2, .int .i64 n2, .int .i64 k2, .int .i64 g2, .slice A2 m2 c2] 25
    simp only [World.size_alloc] at Vy
    go_wp2_with fail
    generalize ((w.alloc (.cells #[.int .i64 la1, .int .i64 n1, .int .i64 k1, .int .i64 g1, .slice A1 m1 c1] 25)).alloc (.cells #[.int .i64 la2, .int .i64 n2, .int .i64 k2, .int .i64 g2, .slice A2 m2 c2] 25)) = wa at *
    have hC := awake7_any wa
    refine hC.mono ?_
    clear hC
    rintro e w1 ⟨rfl, b1⟩
    replace S1 := S1.below b1
    replace S2 := S2.below b1
    replace Vx := Vx.under b1
    replace Vy := Vy.under b1
    replace bb := bb.trans (b1.mono bb.size)
    obtain ⟨Vxq0, Vxq1, Vxq2, Vxq3, Vxq4, Vxr0, Vxr1, Vxr2, Vxr3, Vxr4⟩ := Vx.five
    have Vxl := Vx.lt
    obtain ⟨Vyq0, Vyq1, Vyq2, Vyq3, Vyq4, Vyr0, Vyr1, Vyr2, Vyr3, Vyr4⟩ := Vy.five
    have Vyl := Vy.lt
    go_wp2
    go_ret
    exact ⟨rfl, bb⟩
  by_cases hm2 : (m2 : Int) > 3000
  · skip
    have bb := Below.refl w.heap.size w
    have S1 := h1
    have S2 := h2
    go_enter Try.func11, Try.ntmps11
    replace S1 := S1.alloc (.cells #[.int .i64 la1, .int .i64 n1, .int .i64 k1, .int .i64 g1, .slice A1 m1 c1] 25)
    replace S2 := S2.alloc (.cells #[.int .i64 la1, .int .i64 n1, .int .i64 k1, .int .i64 g1, .slice A1 m1 c1] 25)
    replace bb := bb.alloc bb.size (.cells #[.int .i64 la1, .int .i64 n1, .int .i64 k1, .int .i64 g1, .slice A1 m1 c1] 25)
    have Vx := Blk.new w #[.int .i64 la1, .int .i64 n1, .int .i64 k1, .int .i64 g1, .slice A1 m1 c1] 25
    replace S1 := S1.alloc (.cells #[.int .i64 la2, .int .i64 n2, .int .i64 k2, .int .i64 g2, .slice A2 m2 c2] 25)
    replace S2 := S2.alloc (.cells #[.int .i64 la2, .int .i64 n2, .int .i64 k2, .int .i64 g2, .slice A2 m2 c2] 25)
    replace Vx := Vx.alloc (.cells #[.int .i64 la2, .int .i64 n2, .int .i64 k2, .int .i64 g2, .slice A2 m2 c2] 25)
    replace bb := bb.alloc bb.size (.cells #[.int .i64 la2, .int .i64 n2, .int .i64 k2, .int .i64 g2, .slice A2 m2 c2] 25)
    have Vy := Blk.new (w.alloc (.cells #[.int .i64 la1, .int .i64 n1, .int .i64 k1, .int .i64 g1, .slice A1 m1 c1] 25)) #[.int .i64 la2, .int .i64 n2, .int .i64 k2, .int .i64 g2, .slice A2 m2 c2] 25
    simp only [World.size_alloc] at Vy
    go_wp2_with fail
    generalize ((w.alloc (.cells #[.int .i64 la1, .int .i64 n1, .int .i64 k1, .int .i64 g1, .slice A1 m1 c1] 25)).alloc (.cells #[.int .i64 la2, .int .i64 n2, .int .i64 k2, .int .i64 g2, .slice A2 m2 c2] 25)) = wa at *
    have hC := awake7_any wa
    refine hC.mono ?_
    clear hC
    rintro e w1 ⟨rfl, b1⟩
    replace S1 := S1.below b1
    replace S2 := S2.below b1
    replace Vx := Vx.under b1
    replace Vy := Vy.under b1
    replace bb := bb.trans (b1.mono bb.size)
    obtain ⟨Vxq0, Vxq1, Vxq2, Vxq3, Vxq4, Vxr0, Vxr1, Vxr2, Vxr3, Vxr4⟩ := Vx.five
    have Vxl := Vx.lt
    obtain ⟨Vyq0, Vyq1, Vyq2, Vyq3, Vyq4, Vyr0, Vyr1, Vyr2, Vyr3, Vyr4⟩ := Vy.five
    have Vyl := Vy.lt
    go_wp2
    go_ret
    exact ⟨rfl, bb⟩
  have hj : xjF la1 n1 k1 g1 m1 la2 n2 k2 g2 m2 = xjoins ⟨la1, n1, k1, g1, l1⟩ ⟨la2, n2, k2, g2, l2⟩ := by rw [← xjF_eq]; simp only [e1, e2]
  have hj2 : xjF la2 n2 k2 g2 m2 la1 n1 k1 g1 m1 = xjoins ⟨la2, n2, k2, g2, l2⟩ ⟨la1, n1, k1, g1, l1⟩ := by rw [← xjF_eq]; simp only [e1, e2]
  obtain ⟨N, hN⟩ : ∃ N, Hid ((xbytes ⟨la1, n1, k1, g1, l1⟩).length = N) := ⟨_, rfl⟩
  have hNm : N ≤ 2048 := by rw [← hN.out]; exact xby_max _
  have bb := Below.refl w.heap.size w
  have S1 := h1
  have S2 := h2
  go_enter Try.func11, Try.ntmps11
  replace S1 := S1.alloc (.cells #[.int .i64 la1, .int .i64 n1, .int .i64 k1, .int .i64 g1, .slice A1 m1 c1] 25)
  replace S2 := S2.alloc (.cells #[.int .i64 la1, .int .i64 n1, .int .i64 k1, .int .i64 g1, .slice A1 m1 c1] 25)
  replace bb := bb.alloc bb.size (.cells #[.int .i64 la1, .int .i64 n1, .int .i64 k1, .int .i64 g1, .slice A1 m1 c1] 25)
  have Vx := Blk.new w #[.int .i64 la1, .int .i64 n1, .int .i64 k1, .int .i64 g1, .slice A1 m1 c1] 25
  replace S1 := S1.alloc (.cells #[.int .i64 la2, .int .i64 n2, .int .i64 k2, .int .i64 g2, .slice A2 m2 c2] 25)
  replace S2 := S2.alloc (.cells #[.int .i64 la2, .int .i64 n2, .int .i64 k2, .int .i64 g2, .slice A2 m2 c2] 25)
  replace Vx := Vx.alloc (.cells #[.int .i64 la2, .int .i64 n2, .int .i64 k2, .int .i64 g2, .slice A2 m2 c2] 25)
  replace bb := bb.alloc bb.size (.cells #[.int .i64 la2, .int .i64 n2, .int .i64 k2, .int .i64 g2, .slice A2 m2 c2] 25)
  have Vy := Blk.new (w.alloc (.cells #[.int .i64 la1, .int .i64 n1, .int .i64 k1, .int .i64 g1, .slice A1 m1 c1] 25)) #[.int .i64 la2, .int .i64 n2, .int .i64 k2, .int .i64 g2, .slice A2 m2 c2] 25
  simp only [World.size_alloc] at Vy
  go_wp2_with fail
  generalize ((w.alloc (.cells #[.int .i64 la1, .int .i64 n1, .int .i64 k1, .int .i64 g1, .slice A1 m1 c1] 25)).alloc (.cells #[.int .i64 la2, .int .i64 n2, .int .i64 k2, .int .i64 g2, .slice A2 m2 c2] 25)) = wa at *
  have hC := awake7_any wa
  refine hC.mono ?_
  clear hC
  rintro e w1 ⟨rfl, b1⟩
  replace S1 := S1.below b1
  replace S2 := S2.below b1
  replace Vx := Vx.under b1
  replace Vy := Vy.under b1
  replace bb := bb.trans (b1.mono bb.size)
  obtain ⟨Vxq0, Vxq1, Vxq2, Vxq3, Vxq4, Vxr0, Vxr1, Vxr2, Vxr3, Vxr4⟩ := Vx.five
  have Vxl := Vx.lt
  obtain ⟨Vyq0, Vyq1, Vyq2, Vyq3, Vyq4, Vyr0, Vyr1, Vyr2, Vyr3, Vyr4⟩ := Vy.five
  have Vyl := Vy.lt
  go_wp2_with fail
  clear Vxq0 Vxq1 Vxq2 Vxq3 Vxq4 Vxr0 Vxr1 Vxr2 Vxr3 Vxr4
  clear Vyq0 Vyq1 Vyq2 Vyq3 Vyq4 Vyr0 Vyr1 Vyr2 Vyr3 Vyr4
  have hC := eBytes_any la1 n1 k1 g1 A1 m1 c1 l1 w1 hla1 S1
  refine hC.mono ?_
  clear hC
  rintro e w2 ⟨Ab, nb, cb, rfl, Nb, Bb⟩
  replace S1 := S1.below Bb
  replace S2 := S2.below Bb
  replace Vx := Vx.under Bb
  replace Vy := Vy.under Bb
  replace bb := bb.trans (Bb.mono bb.size)
  obtain rfl : N = nb := by have q1 := Nb.1; rw [List.length_map] at q1; have q2 := hN.out; omega
  have Sb := Nb.sl
  clear Nb
  go_wp2_with fail
  have hVx := Vx
  go_loopg [7] N (fun g i wr => ∃ k : Nat, k + g = N ∧ i = .int .i64 (k : Int) ∧ w2 = wr)
  case atStart => exact ⟨0, Nat.zero_add _, rfl, rfl⟩
  case round =>
    obtain ⟨k, hk, rfl, rfl⟩ := hrel
    obtain ⟨x0', x1', x2', x3', x4', _⟩ := Vx.five
    by_cases hlt : (k : Int) < (N : Int)
    · obtain ⟨g, rfl⟩ : ∃ g, gk = g + 1 := ⟨gk - 1, by omega⟩
      by_cases hk2 : k1 = 2
      · have kf : (k1 != 2) = false := by simp [hk2]
        clear hk2
        go_wp2
        go_roundg g
        case measure => omega
        case rel => exact ⟨k + 1, by omega, by first | rfl | (simp; done) | (simp; unfold wrap64; omega), rfl⟩
      · have kf : (k1 != 2) = true := by simpa using hk2
        obtain ⟨ad, u, hA, hb, hu, hc⟩ := Sb.at_ (show k < N by omega)
        rw [List.getElem?_map, Option.map_eq_some_iff] at hu
        obtain ⟨v, hv, rfl⟩ := hu
        have hv0 := plain_zero hk2 hv
        subst hv0 hA
        have hc' : w2.cell? (ad.add k) = some (.int .u8 0) := hc
        have hcapb := Sb.cap
        clear hc hv hk2
        go_wp2
        go_roundg g
        case measure => omega
        case rel => exact ⟨k + 1, by omega, by first | rfl | (simp; done) | (simp; unfold wrap64; omega), rfl⟩
    · obtain ⟨y0', y1', y2', y3', y4', _⟩ := Vy.five
      cases r : xjoins ⟨la1, n1, k1, g1, l1⟩ ⟨la2, n2, k2, g2, l2⟩
      · rw [r] at hj
        have hC := eJoin_no la1 n1 k1 g1 A1 m1 c1 l1 la2 n2 k2 g2 A2 m2 c2 l2 w2 hla1 hla2 S1 S2 (xjoin_no r)
        go_wp2_with fail
        refine hC.mono ?_
        clear hC
        rintro e w3 ⟨Ac, mc, cc, hmc, rfl, _, B3⟩
        try dsimp only [x0]
        replace Vx := (Vx.under B3).alloc (.cells #[.int .i64 0, .int .i64 0, .int .i64 0, .int .i64 0, .slice Ac mc cc] 25)
        replace Vy := (Vy.under B3).alloc (.cells #[.int .i64 0, .int .i64 0, .int .i64 0, .int .i64 0, .slice Ac mc cc] 25)
        replace bb := (bb.trans (B3.mono bb.size)).alloc (Nat.le_trans bb.size B3.size) (.cells #[.int .i64 0, .int .i64 0, .int .i64 0, .int .i64 0, .slice Ac mc cc] 25)
        clear x0' x1' x2' x3' x4' y0' y1' y2' y3' y4'
        obtain ⟨x0', x1', x2', x3', x4', _⟩ := Vx.five
        obtain ⟨y0', y1', y2', y3', y4', _⟩ := Vy.five
        go_wp2_with fail
        refine (eJoins_any la1 n1 k1 g1 A1 m1 c1 la2 n2 k2 g2 A2 m2 c2 _ hla1 hla2).mono ?_
        rintro e w4 ⟨rfl, B4⟩
        rw [hj]
        replace bb := bb.trans (B4.mono bb.size)
        go_wp2
        go_ret
        exact ⟨rfl, bb⟩
      · rw [r] at hj
        have hx := xjoins_all r
        have hr2 : xjoins ⟨la2, n2, k2, g2, l2⟩ ⟨la1, n1, k1, g1, l1⟩ = false := by
          cases hh : xjoins ⟨la2, n2, k2, g2, l2⟩ ⟨la1, n1, k1, g1, l1⟩
          · rfl
          · exfalso
            have z1 := xjoins_all hh
            have z2 := Xp.all hx.1
            have z3 := Xp.all hx.2.1
            have z4 := z1.2.2.1
            have z5 := hx.2.2.1
            simp only at z2 z3 z4 z5
            omega
        have hby : Hid (xbytes (xboth ⟨la1, n1, k1, g1, l1⟩ ⟨la2, n2, k2, g2, l2⟩) = xbytes ⟨la1, n1, k1, g1, l1⟩ ++ xbytes ⟨la2, n2, k2, g2, l2⟩) := by
          unfold Hid
          rw [xbytes_yes (xboth_ok r), xbytes_yes hx.1, xbytes_yes hx.2.1]
          exact xby_both r
        rw [hr2] at hj2
        have y1 := Xp.all hx.1
        have y2 := Xp.all hx.2.1
        have hx3 := hx.2.2.1
        simp only at y1 y2 hx3
        have s1 : wrap64 (la1 + n1) = la2 := by unfold wrap64; omega
        obtain ⟨n3, hn3⟩ : ∃ n3, Hid (n1 + n2 = n3) := ⟨_, rfl⟩
        have s2 : wrap64 (n1 + n2) = n3 := by rw [← hn3.out]; unfold wrap64; omega
        have hC := eJoin_ok la1 n1 k1 g1 A1 m1 c1 l1 la2 n2 k2 g2 A2 m2 c2 l2 w2 hla1 hla2 S1 S2 (xjoin_yes r)
        have hxk : Hid (k1 = k2) := hx.2.2.2.1
        have hxg : Hid (g1 = g2) := hx.2.2.2.2
        clear y1 y2 hx hx3
        go_wp2_with fail
        refine hC.mono ?_
        clear hC
        rintro e w3 ⟨Ac, mc, cc, hmc, rfl, N3, B3⟩
        have S3 := N3.sl
        clear N3 hmc
        have e3 : xboth ⟨la1, n1, k1, g1, l1⟩ ⟨la2, n2, k2, g2, l2⟩ = ⟨la1, n3, k1, g1, l1 ++ l2⟩ := by unfold xboth; rw [hn3.out]
        rw [e3] at S3 hby ⊢
        try dsimp only at S3
        try dsimp only
        clear e3
        replace hxk := hxk.out
        replace hxg := hxg.out
        subst hxk hxg
        replace Vx := Vx.under B3
        replace Vy := Vy.under B3
        replace S1 := S1.below B3
        replace S2 := S2.below B3
        replace bb := bb.trans (B3.mono bb.size)
        have Vz := Blk.new w3 #[.int .i64 la1, .int .i64 n3, .int .i64 k1, .int .i64 g1, .slice Ac mc cc] 25
        replace Vx := Vx.alloc (.cells #[.int .i64 la1, .int .i64 n3, .int .i64 k1, .int .i64 g1, .slice Ac mc cc] 25)
        replace Vy := Vy.alloc (.cells #[.int .i64 la1, .int .i64 n3, .int .i64 k1, .int .i64 g1, .slice Ac mc cc] 25)
        replace S1 := S1.alloc (.cells #[.int .i64 la1, .int .i64 n3, .int .i64 k1, .int .i64 g1, .slice Ac mc cc] 25)
        replace S2 := S2.alloc (.cells #[.int .i64 la1, .int .i64 n3, .int .i64 k1, .int .i64 g1, .slice Ac mc cc] 25)
        replace S3 := S3.alloc (.cells #[.int .i64 la1, .int .i64 n3, .int .i64 k1, .int .i64 g1, .slice Ac mc cc] 25)
        replace bb := bb.alloc bb.size (.cells #[.int .i64 la1, .int .i64 n3, .int .i64 k1, .int .i64 g1, .slice Ac mc cc] 25)
        clear x0' x1' x2' x3' x4' y0' y1' y2' y3' y4' Sb
        obtain ⟨x0', x1', x2', x3', x4', _⟩ := Vx.five
        obtain ⟨y0', y1', y2', y3', y4', _⟩ := Vy.five
        go_wp2_with fail
        refine (eJoins_any la1 n1 k1 g1 A1 m1 c1 la2 n2 k1 g1 A2 m2 c2 _ hla1 hla2).mono ?_
        rintro e w4 ⟨rfl, B4⟩
        rw [hj]
        replace Vx := Vx.under B4
        replace Vy := Vy.under B4
        replace Vz := Vz.under B4
        replace S1 := S1.below B4
        replace S2 := S2.below B4
        replace S3 := S3.below B4
        replace bb := bb.trans (B4.mono bb.size)
        clear x0' x1' x2' x3' x4' y0' y1' y2' y3' y4' B3 B4
        go_wp2_with fail
        refine wp_region_held_drew (S := fun w' => Below w4.heap.size w4 w') (by kernel_rfl) (Below.refl _ _).drew (fun hHeld => ?_)
        try dsimp only at hHeld
        have bd : Below w4.heap.size w4 w4.drew := (Below.refl w4.heap.size w4).drew
        have Vxd := Vx.drew
        have Vyd := Vy.drew
        have Vzd := Vz.drew
        have S1d := S1.drew
        have S2d := S2.drew
        have S3d := S3.drew
        have bbd := bb.drew
        generalize w4.drew = wd at *
        try simp only [Act.put, List.setIfInBounds_toArray, List.set_cons_zero, List.set_cons_succ]
        refine wpAnyH_take (i := 0) (v := ?_) (by simp only [List.getElem?_toArray, List.getElem?_cons_zero]; rfl) (by kernel_rfl) (by kernel_rfl) (by kernel_rfl) (by intro _ _ _ h; exact h) (Or.inl ⟨by rfl, ?_⟩) hHeld ?_
        rotate_left 1
        · intro wq hSw
          try dsimp only at hSw
          obtain ⟨x0', x1', x2', x3', x4', _⟩ := (Vx.under hSw).five
          go_simp
          try (with_reducible rfl)
        try simp only [Act.put, List.setIfInBounds_toArray, List.set_cons_zero, List.set_cons_succ]
        refine wpAnyH_take (i := 3) (v := ?_) (by simp only [List.getElem?_toArray, List.getElem?_cons_succ, List.getElem?_cons_zero]; rfl) (by kernel_rfl) (by kernel_rfl) (by kernel_rfl) (by intro _ _ _ h; exact h) (Or.inl ⟨by rfl, ?_⟩) hHeld ?_
        rotate_left 1
        · intro wq hSw
          try dsimp only at hSw
          obtain ⟨z0', z1', z2', z3', z4', _⟩ := (Vy.under hSw).five
          go_simp
          try (with_reducible rfl)
        try simp only [Act.put, List.setIfInBounds_toArray, List.set_cons_zero, List.set_cons_succ]
        refine wpAnyH_ready (rs := [1]) (by kernel_rfl) (by simp) ?_
        refine AllReadyH.cons (by simp only [List.getElem?_toArray, List.getElem?_cons_succ, List.getElem?_cons_zero]; rfl) (fun K hK => ?_) AllReadyH.nil
        go_simp
        refine (eBytes_any la1 n1 k1 g1 A1 m1 c1 l1 wd hla1 S1d).mono ?_
        rintro e u1 ⟨AT, nT, cT, rfl, NT, bN⟩
        have Bu1 : Below w4.heap.size w4 u1 := bd.trans (bN.mono bd.size)
        replace Vx := Vxd.under bN
        replace Vy := Vyd.under bN
        replace Vz := Vzd.under bN
        replace S1 := S1d.below bN
        replace S2 := S2d.below bN
        replace S3 := S3d.below bN
        replace bb := bbd.trans (bN.mono bbd.size)
        have T1 := NT.sl
        clear NT
        clear bN
        go_wp2_with fail
        refine hK.out _ _ (Bu1) (fun _ => wpAnyH_stronger (S' := fun w' => Below u1.heap.size u1 w') (fun w' h => Below.trans Bu1 (h.mono Bu1.size)) _ _ _ _ ?_)
        clear hK K hHeld
        have hHeld := Below.refl u1.heap.size u1
        try simp only [Act.put, List.setIfInBounds_toArray, List.set_cons_zero, List.set_cons_succ]
        refine wpAnyH_take (i := 2) (v := ?_) (by simp only [List.getElem?_toArray, List.getElem?_cons_succ, List.getElem?_cons_zero]; rfl) (by kernel_rfl) (by kernel_rfl) (by kernel_rfl) (by intro _ _ _ h; exact h) (Or.inl ⟨by rfl, ?_⟩) hHeld ?_
        rotate_left 1
        · intro wq hSw
          try dsimp only at hSw
          have qs := str_of (T1.below hSw)
          go_simp
          try (with_reducible rfl)
        try simp only [Act.put, List.setIfInBounds_toArray, List.set_cons_zero, List.set_cons_succ]
        refine wpAnyH_ready (rs := [4]) (by kernel_rfl) (by simp) ?_
        refine AllReadyH.cons (by simp only [List.getElem?_toArray, List.getElem?_cons_succ, List.getElem?_cons_zero]; rfl) (fun K hK => ?_) AllReadyH.nil
        go_simp
        refine (eBytes_any la2 n2 k1 g1 A2 m2 c2 l2 u1 hla2 S2).mono ?_
        rintro e u4 ⟨AU, nU, cU, rfl, NU, bN⟩
        have Bu4 : Below u1.heap.size u1 u4 := bN
        replace Vx := Vx.under bN
        replace Vy := Vy.under bN
        replace Vz := Vz.under bN
        replace S1 := S1.below bN
        replace S2 := S2.below bN
        replace S3 := S3.below bN
        replace bb := bb.trans (bN.mono bb.size)
        have T2 := NU.sl
        clear NU
        replace T1 := T1.below bN
        clear bN
        go_wp2_with fail
        refine hK.out _ _ (Bu4) (fun _ => wpAnyH_stronger (S' := fun w' => Below u4.heap.size u4 w') (fun w' h => Below.trans Bu4 (h.mono Bu4.size)) _ _ _ _ ?_)
        clear hK K hHeld
        have hHeld := Below.refl u4.heap.size u4
        try simp only [Act.put, List.setIfInBounds_toArray, List.set_cons_zero, List.set_cons_succ]
        refine wpAnyH_take (i := 5) (v := ?_) (by simp only [List.getElem?_toArray, List.getElem?_cons_succ, List.getElem?_cons_zero]; rfl) (by kernel_rfl) (by kernel_rfl) (by kernel_rfl) (by intro _ _ _ h; exact h) (Or.inl ⟨by rfl, ?_⟩) hHeld ?_
        rotate_left 1
        · intro wq hSw
          try dsimp only at hSw
          have qs := str_of (T2.below hSw)
          go_simp
          try (with_reducible rfl)
        try simp only [Act.put, List.setIfInBounds_toArray, List.set_cons_zero, List.set_cons_succ]
        refine wpAnyH_take (i := 6) (v := ?_) (by simp only [List.getElem?_toArray, List.getElem?_cons_succ, List.getElem?_cons_zero]; rfl) (by kernel_rfl) (by kernel_rfl) (by kernel_rfl) (by intro _ _ _ h; exact h) (Or.inl ⟨by rfl, ?_⟩) hHeld ?_
        rotate_left 1
        · intro wq hSw
          try dsimp only at hSw
          have hsum : ¬ 9223372036854775807 < (xbytes ⟨la1, n1, k1, g1, l1⟩).length + (xbytes ⟨la2, n2, k1, g1, l2⟩).length := Nat.not_lt.2 (Nat.le_trans (Nat.add_le_add (xby_max _) (xby_max _)) (by decide))
          have hba := ba_app (xbytes ⟨la1, n1, k1, g1, l1⟩) (xbytes ⟨la2, n2, k1, g1, l2⟩)
          go_simp
          try (with_reducible rfl)
        try simp only [Act.put, List.setIfInBounds_toArray, List.set_cons_zero, List.set_cons_succ]
        refine wpAnyH_take (i := 7) (v := ?_) (by simp only [List.getElem?_toArray, List.getElem?_cons_succ, List.getElem?_cons_zero]; rfl) (by kernel_rfl) (by kernel_rfl) (by kernel_rfl) (by intro _ _ _ h; exact h) (Or.inl ⟨by rfl, ?_⟩) hHeld ?_
        rotate_left 1
        · intro wq hSw
          try dsimp only at hSw
          go_simp
          try (with_reducible rfl)
        try simp only [Act.put, List.setIfInBounds_toArray, List.set_cons_zero, List.set_cons_succ]
        refine wpAnyH_done (by kernel_rfl) ?_ _
        obtain ⟨x0', x1', x2', x3', x4', _⟩ := Vx.five
        obtain ⟨y0', y1', y2', y3', y4', _⟩ := Vy.five
        obtain ⟨z0', z1', z2', z3', z4', _⟩ := Vz.five
        go_wp2_with fail
        refine (eBytes_any la1 n3 k1 g1 Ac mc cc (l1 ++ l2) u4 hla1 S3).mono ?_
        rintro e w5 ⟨A5, n5, c5, rfl, N5, B5⟩
        have T5 := N5.sl
        clear N5
        rw [hby.out] at T5
        have q5 := str_of T5
        replace Vx := Vx.under B5
        replace Vy := Vy.under B5
        replace bb := bb.trans (B5.mono bb.size)
        clear x0' x1' x2' x3' x4' y0' y1' y2' y3' y4' z0' z1' z2' z3' z4' B5
        obtain ⟨x0', x1', x2', x3', x4', _⟩ := Vx.five
        obtain ⟨y0', y1', y2', y3', y4', _⟩ := Vy.five
        go_wp2_with fail
        refine (eJoins_any la2 n2 k1 g1 A2 m2 c2 la1 n1 k1 g1 A1 m1 c1 _ hla2 hla1).mono ?_
        rintro e w6 ⟨rfl, B6⟩
        rw [hj2]
        replace bb := bb.trans (B6.mono bb.size)
        go_wp2
        go_ret
        exact ⟨rfl, bb⟩

theorem ExtentPlain_walk (a0_0 : Int) (a0_1 : Int) (a0_2 : Int) (a0_3 : Int) (a0_4 : Option Addr) (len0_4 cap0_4 : Nat) (z0_4 : List Int) (a1_0 : Int) (a1_1 : Int) (a1_2 : Int) (a1_3 : Int) (a1_4 : Option Addr) (len1_4 cap1_4 : Nat) (z1_4 : List Int) (w : World) (w0_0 : (Lit.int .i64 a0_0).wf = true) (w0_1 : (Lit.int .i64 a0_1).wf = true) (w0_2 : (Lit.int .i64 a0_2).wf = true) (w0_3 : (Lit.int .i64 a0_3).wf = true) (w0_4 : IsRow .u8 w a0_4 len0_4 cap0_4 z0_4) (w1_0 : (Lit.int .i64 a1_0).wf = true) (w1_1 : (Lit.int .i64 a1_1).wf = true) (w1_2 : (Lit.int .i64 a1_2).wf = true) (w1_3 : (Lit.int .i64 a1_3).wf = true) (w1_4 : IsRow .u8 w a1_4 len1_4 cap1_4 z1_4) :
    Calls Try.prog 11 #[.agg #[.int .i64 a0_0, .int .i64 a0_1, .int .i64 a0_2, .int .i64 a0_3, .slice a0_4 len0_4 cap0_4], .agg #[.int .i64 a1_0, .int .i64 a1_1, .int .i64 a1_2, .int .i64 a1_3, .slice a1_4 len1_4 cap1_4]] w (AwakePost w) := by
  obtain ⟨l1, h1⟩ := w0_4.bytes
  obtain ⟨l2, h2⟩ := w1_4.bytes
  exact plain_core a0_0 a0_1 a0_2 a0_3 a0_4 len0_4 cap0_4 l1 a1_0 a1_1 a1_2 a1_3 a1_4 len1_4 cap1_4 l2 w (ext_wf w0_0) (ext_wf w1_0) h1 h2
end Go.Proofs.Ytfblbdkkmfnhmaa
