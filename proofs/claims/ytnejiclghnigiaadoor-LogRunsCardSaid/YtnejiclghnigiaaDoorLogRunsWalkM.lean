/-
  LogRuns: the document's Run, and the walk (written by gen_logruns.py).
-/
import Derived.Test.YtnejiclghnigiaaDoorMergE
namespace Go.Proofs.YtnejiclghnigiaaDoor
open Go.RowKit Go.Wag
set_option linter.unusedVariables false
set_option maxRecDepth 20000

/-- Found records that came in. -/
theorem fnds_of_sts {w : World} {a : Option Addr} {len cap : Nat} (h : IsSts [.num .i64, .num .i64, .row .u8, .num .i64, .num .i64] w a len cap) : ∃ xs, Rs fndE (fun b => b < w.heap.size) w a len cap xs := by
  rcases h with ⟨rfl, rfl, rfl⟩ | ⟨ad, rfl, hl, hm, hc⟩
  · exact ⟨[], Rs.nil _ _ _⟩
  · have hm2 : cap ≤ 9223372036854775807 := by simpa [maxLen] using hm
    rcases Nat.eq_zero_or_pos len with h0 | h0
    · subst h0
      exact ⟨[], rfl, hl, hm2, fun h => absurd h (by omega)⟩
    · obtain ⟨g, o, sp⟩ := ad
      have hg : g < w.heap.size := by
        obtain ⟨v, cz, _⟩ := hc 0 h0 0 _ rfl
        by_cases hx : g < w.heap.size
        · exact hx
        · exfalso
          unfold World.cell? at cz
          rw [add_block, Array.getElem?_eq_none (by simp; omega)] at cz
          cases cz
      cases sp with
      | some sp =>
        exfalso
        obtain ⟨v, cz, _⟩ := hc 0 h0 0 _ rfl
        unfold World.cell? at cz
        split at cz
        · simp [Addr.add] at cz
        · cases cz
      | none =>
        obtain ⟨xs, hzl, hz⟩ := list_of (Q := fun i x => ∃ vs, fndE.rd (fun b => b < w.heap.size) w vs x ∧ ∀ j v, vs[j]? = some v → w.cell? ⟨g, o + i * 5 + j, none⟩ = some v) len (fun i hi => by
          obtain ⟨v0, c0, k, rfl, _⟩ := hc i hi 0 _ rfl
          obtain ⟨v1, c1, s, rfl, _⟩ := hc i hi 1 _ rfl
          obtain ⟨v2, c2, Ab, nb, cb, zz, rfl, hr⟩ := hc i hi 2 _ rfl
          obtain ⟨v3, c3, zn, rfl, _⟩ := hc i hi 3 _ rfl
          obtain ⟨v4, c4, at_, rfl, _⟩ := hc i hi 4 _ rfl
          obtain ⟨b, hb⟩ := hr.bytes
          obtain rfl : b.length = nb := hb.len8
          refine ⟨⟨⟨k, s, b⟩, zn, at_⟩, _, ⟨Ab, cb, rfl, hb, fun hn ad e => ?_⟩, fun j v hj => ?_⟩
          · obtain ⟨ad', e', hb', _⟩ := hb.cells hn
            cases e.symm.trans e'
            exact hb'
          · rw [Addr.add_lit] at c0 c1 c2 c3 c4
            rcases j with _ | _ | _ | _ | _ | j
            · cases hj; exact c0
            · cases hj; rw [Nat.add_assoc]; exact c1
            · cases hj; rw [Nat.add_assoc]; exact c2
            · cases hj; rw [Nat.add_assoc]; exact c3
            · cases hj; rw [Nat.add_assoc]; exact c4
            · simp at hj)
        exact ⟨xs, hzl, hl, hm2, fun _ => ⟨g, o, rfl, hg, hg, hz⟩⟩

/-- The least place from k on where a number is, or -1. -/
def atI (xs : List Fp) (s : Int) (k : Nat) : Int := (idxS (xs.drop k) s).elim (-1) (fun j => ((j + k : Nat) : Int))
theorem atI_end (xs : List Fp) (s : Int) {k : Nat} (h : xs.length ≤ k) : atI xs s k = -1 := by
  rw [atI, List.drop_of_length_le h]
  rfl
theorem atI_step {xs : List Fp} {k : Nat} {x : Fp} (s : Int) (hx : xs[k]? = some x) : atI xs s k = if x.r.s = s then (k : Int) else atI xs s (k + 1) := by
  obtain ⟨hk, hx2⟩ := List.getElem?_eq_some_iff.1 hx
  rw [atI, atI, List.drop_eq_getElem_cons hk, hx2, idxS, List.findIdx?_cons]
  by_cases h : x.r.s = s
  · simp [h]
  · simp only [h, decide_false, Bool.false_eq_true, if_false, idxS]
    cases List.findIdx? (fun f : Fp => decide (f.r.s = s)) (xs.drop (k + 1)) with
    | none => rfl
    | some j =>
      simp only [Option.map_some, Option.elim_some]
      omega
theorem atI_zero (xs : List Fp) (s : Int) : atI xs s 0 = (idxS xs s).elim (-1) (fun j => (j : Int)) := by simp [atI]

def RunPost2 (w : World) (rs : List Rp) (e : Ending) (w' : World) : Prop :=
  ∃ A k c, k = rs.length ∧ e = .returned (.slice A k c) ∧ Rs recE (fun _ => True) w' A k c rs ∧ Below w.heap.size w w'

set_option maxHeartbeats 4000000 in
theorem xRun_any {F : Nat → Prop} (A : Option Addr) (n c : Nat) (xs : List Fp) (s : Int) (w : World) (h : Rs fndE F w A n c xs) (hs0 : -9223372036854775808 ≤ s) (hs1 : s ≤ 4611686018427387904) (hn : n ≤ 1000000) (rs : List Rp) (hr : runF xs s = rs) :
    Calls Tryd.prog 12 #[.slice A n c, .int .i64 s] w (RunPost2 w rs) := by
  obtain ⟨iR, hiR, hzR, hsR, hbR⟩ := iRec
  have hlen := h.len
  have hcap := h.cap
  have hbig := h.big
  have hr0 : Hid (rs = [] ++ runN xs (n + 1) s) := by
    show rs = _
    rw [← hr, runF, hlen]
    rfl
  have hlf : leftN xs s < n + 1 := Nat.lt_succ_of_le (by rw [← hlen]; exact List.countP_le_length)
  clear hr
  go_enter Tryd.func12, Tryd.ntmps12
  go_wp2_with fail
  go_loopg [5, 6] (n + 1) (fun g rv sv wr => ∃ (k : Nat) (Aa : Option Addr) (ca : Nat) (ds : List Rp) (s : Int), rv = .slice Aa k ca ∧ sv = .int .i64 s ∧ -9223372036854775808 ≤ s ∧ s ≤ 4611686018427387904 + (k : Int) ∧ leftN xs s < g ∧ k + g = n + 1 ∧ Hid (rs = ds ++ runN xs g s) ∧ Rq recE (fun _ => True) w.heap.size 26 wr Aa k ca ds ∧ Below w.heap.size w wr)
  case atStart => exact ⟨0, none, 0, [], s, rfl, rfl, hs0, by omega, hlf, by omega, hr0, Rq.nil _ _ _ _ _, Below.refl _ _⟩
  case round =>
    clear hs0 hs1 hlf hr0
    obtain ⟨k, Aa, ca, ds, s, rfl, rfl, hs0, hs1, hlf, hkg, hr, hR, bb⟩ := hrel
    obtain ⟨g, rfl⟩ : ∃ g, gk = g + 1 := ⟨gk - 1, by omega⟩
    have ha0 : Hid ((-1 : Int) = atI xs s n) := (atI_end xs s (by omega)).symm
    go_wp2_with fail
    go_loopg [7, 8] n (fun q av iv wr' => ∃ (a i : Int), av = .int .i64 a ∧ iv = .int .i64 i ∧ Hid (i = (q : Int) - 1) ∧ q ≤ n ∧ Hid (a = atI xs s q) ∧ wr = wr')
    case atStart => exact ⟨-1, (n : Int) - 1, rfl, by first | rfl | (simp; done) | (simp; exact wrap64_small (by omega) (by omega)), rfl, Nat.le_refl _, ha0, rfl⟩
    case round =>
      clear ha0
      obtain ⟨a, i, rfl, rfl, hi, hqn, ha, rfl⟩ := hrel
      rcases Nat.eq_zero_or_pos gk with hq0 | hq0
      · subst hq0
        obtain rfl : i = -1 := by have := hi.out; omega
        have ha1 := ha.out
        rw [atI_zero] at ha1
        cases hid : idxS xs s with
        | none =>
          rw [hid] at ha1
          have ha2 : a = -1 := ha1
          subst ha2
          have hds : Hid (rs = ds) := by
            show rs = ds
            rw [hr.out, run_none hid, List.append_nil]
          have hnl := hR.len
          clear hid hr ha ha1
          go_wp2
          go_ret
          rw [hds.out]
          exact ⟨Aa, k, ca, hnl.symm, rfl, hR.toRs (fun _ _ _ => trivial), bb⟩
        | some i =>
          rw [hid] at ha1
          have ha2 : a = (i : Int) := ha1
          subst ha2
          obtain ⟨x, hx, -, hil⟩ := idxS_some hid
          have hst := left_step hid
          obtain ⟨gb, o, x', Ai, ci, rfl, hF, hg, hx', c0', c1', c2', c3', c4', hS, hA⟩ := Rs.fnd_at h (show i < n by omega)
          obtain rfl : x = x' := Option.some.inj (hx.symm.trans hx')
          have hin : i < n := by omega
          have c0 := (bb.cell hg).trans c0'
          have c1 := (bb.cell hg).trans c1'
          have c2 := (bb.cell hg).trans c2'
          have hSw := hS.below bb
          have hds : Hid (rs = (ds ++ [x.r]) ++ runN xs g (s + 1)) := by
            show rs = _
            rw [hr.out, run_some hid hx (by omega)]
            simp
          have al := (Below.refl wr.heap.size wr).alloc (Nat.le_refl _) (.cells #[.int .i64 x.r.k, .int .i64 x.r.s, .slice Ai x.r.l.length ci] 26)
          have Bs := Blk.new wr #[.int .i64 x.r.k, .int .i64 x.r.s, .slice Ai x.r.l.length ci] 26
          have hlo := hR.lt
          have hrd : recE.rd (fun b => True ∧ (Value.slice Aa k ca).ownBlock ≠ some b) wr [.int .i64 x.r.k, .int .i64 x.r.s, .slice Ai x.r.l.length ci] x.r := by
            refine ⟨Ai, ci, rfl, hSw, fun hn ad e => ⟨trivial, fun e2 => ?_⟩⟩
            obtain ⟨ad', e', hb', _⟩ := hS.cells hn
            cases e.symm.trans e'
            have := (hlo _ e2).1
            omega
          obtain ⟨A5, c5, w5, hrun, R5, gr, hl5⟩ := (hR.under al).app (P := Tryd.prog) (T := 30) (ty := 30) Tryd.underlying30 hiR hzR hsR hbR rfl (Nat.le_trans bb.size al.size) (by omega) (by omega) (Elt.below hrd al) (one_rec _ _ _ _ _) Bs
          have hlo2 := (hR.under al).lt
          have bb5 : Below w.heap.size w w5 := (bb.trans (al.mono bb.size)).grown gr (Nat.le_trans bb.size al.size) (fun y hy => (hlo2 y hy).1)
          clear c0' c1' c2' c3' c4' hx' hx hid hr ha ha1 hrd Bs hlo hlo2 al gr hl5 hS hSw hA hR bb hi
          go_wp2_with (at_builtin; first | (refine wpList_run rfl (.tmp 29) (.tmp 35) 30 rfl rfl rfl hrun ?_; intro _))
          go_roundg g
          case measure => omega
          case rel => exact ⟨k + 1, A5, c5, _, s + 1, rfl, by first | rfl | (simp; done) | (simp; exact wrap64_small (by omega) (by omega)), by omega, by omega, by omega, by omega, hds, R5, bb5⟩
      · obtain ⟨q, rfl⟩ : ∃ q, gk = q + 1 := ⟨gk - 1, by omega⟩
        obtain rfl : i = (q : Int) := by have := hi.out; omega
        obtain ⟨gb, o, x, Ai, ci, rfl, hF, hg, hx, c0', c1', c2', c3', c4', hS, hA⟩ := Rs.fnd_at h (show q < n by omega)
        have c1 := (bb.cell hg).trans c1'
        have hqlt : q < n := by omega
        have hst := atI_step s hx
        clear c0' c1' c2' c3' c4' hx hA
        by_cases hxs : x.r.s = s
        · rw [if_pos hxs] at hst
          have ha2 : Hid ((q : Int) = atI xs s q) := hst.symm
          have hxb : (x.r.s == s) = true := by simpa using hxs
          clear hst ha
          go_wp2
          go_roundg q
          case measure => omega
          case rel => exact ⟨(q : Int), (q : Int) - 1, rfl, by first | rfl | (simp; done) | (simp; exact wrap64_small (by omega) (by omega)), rfl, by omega, ha2, rfl⟩
        · rw [if_neg hxs] at hst
          have ha2 : Hid (a = atI xs s q) := ha.out.trans hst.symm
          have hxb : (x.r.s == s) = false := by simpa using hxs
          clear hst ha
          go_wp2
          go_roundg q
          case measure => omega
          case rel => exact ⟨a, (q : Int) - 1, rfl, by first | rfl | (simp; done) | (simp; exact wrap64_small (by omega) (by omega)), rfl, by omega, ha2, rfl⟩

set_option maxHeartbeats 2000000 in
theorem LogRuns_core {F : Nat → Prop} (A : Option Addr) (n c : Nat) (xs : List Fp) (s : Int) (w : World) (hT : Tab w) (h : Rs fndE F w A n c xs) (hs0 : -9223372036854775808 ≤ s) (hs1 : s < 9223372036854775808) :
    Calls Tryd.prog 3 #[.slice A n c, .int .i64 s] w (AwakePost w) := by
  have hlen := h.len
  have hcap := h.cap
  have hbig := h.big
  go_enter Tryd.func3, Tryd.ntmps3
  go_wp2_with fail
  refine (awake6_any w hT).mono ?_
  rintro e w1 ⟨rfl, b1⟩
  replace h := h.below b1
  by_cases h100 : (100 : Int) < (n : Int)
  · go_wp2
    go_ret
    exact ⟨rfl, b1⟩
  · by_cases hs2 : (4611686018427387904 : Int) < s
    · go_wp2
      go_ret
      exact ⟨rfl, b1⟩
    · have h100' : ¬ 100 < n := by omega
      go_wp2_with fail
      go_loopg [6] n (fun g iv wr => ∃ k : Nat, k + g = n ∧ iv = .int .i64 (k : Int) ∧ Aside (∀ j x, j < k → xs[j]? = some x → x.r.l.length ≤ 300) ∧ w1 = wr)
      case atStart => exact ⟨0, by omega, rfl, fun j x hj => absurd hj (by omega), rfl⟩
      case round =>
        obtain ⟨k, hk, rfl, hall, rfl⟩ := hrel
        by_cases hlt : (k : Int) < (n : Int)
        · obtain ⟨g, rfl⟩ : ∃ g, gk = g + 1 := ⟨gk - 1, by omega⟩
          obtain ⟨gb, o, x, Ai, ci, rfl, hF, hg, hx, c0, c1, c2, c3, c4, hS, hA⟩ := Rs.fnd_at h (show k < n by omega)
          by_cases hb : (300 : Int) < (x.r.l.length : Int)
          · clear hx
            go_wp2
            go_ret
            exact ⟨rfl, b1⟩
          · have hk1 : Aside (∀ j x, j < k + 1 → xs[j]? = some x → x.r.l.length ≤ 300) := fun j y hj hy => by
              by_cases hjk : j = k
              · subst hjk
                cases hx.symm.trans hy
                omega
              · exact hall.out j y (by omega) hy
            clear hx
            go_wp2
            go_roundg g
            case measure => omega
            case rel => exact ⟨k + 1, by omega, by first | rfl | (simp; done), hk1, rfl⟩
        · have hb : ∀ x ∈ xs, x.r.l.length ≤ 10000 := fun x hx => by
            obtain ⟨j, hj, rfl⟩ := List.mem_iff_getElem.1 hx
            have := hall.out j _ (by omega) (List.getElem?_eq_getElem hj)
            omega
          obtain ⟨rs, hrs⟩ : ∃ r, Hid (runF xs s = r) := ⟨_, rfl⟩
          go_wp2_with fail
          refine (gRun_any A n c xs s w1 h hs0 hs1 (by omega) hb _ hrs.out).mono ?_
          rintro e w2 ⟨A2, k2, c2, hk2, rfl, R2, b2⟩
          replace hk2 := Lib.hid hk2
          replace h := h.below b2
          go_wp2_with fail
          refine (xRun_any A n c xs s w2 h hs0 (by omega) (by omega) _ hrs.out).mono ?_
          rintro e w3 ⟨A3, k3, c3, hk3, rfl, R3, b3⟩
          obtain rfl : k2 = k3 := hk2.out.trans hk3.symm
          clear hk3
          go_wp2_with fail
          refine (allSame_any _ A2 k2 c2 A3 c3 w3 (R2.below b3) R3).mono ?_
          rintro e w4 ⟨rfl, b4⟩
          go_wp2
          go_ret
          exact ⟨rfl, ((b1.trans (b2.mono b1.size)).trans (b3.mono (Nat.le_trans b1.size b2.size))).trans (b4.mono (Nat.le_trans (Nat.le_trans b1.size b2.size) b3.size))⟩

theorem LogRuns_walk (a0 : Option Addr) (len0 cap0 : Nat) (a1 : Int) (w : World) (hT : Tab w) (w0 : IsSts [.num .i64, .num .i64, .row .u8, .num .i64, .num .i64] w a0 len0 cap0) (w1 : (Lit.int .i64 a1).wf = true) :
    Calls Tryd.prog 3 #[.slice a0 len0 cap0, .int .i64 a1] w (AwakePost w) := by
  obtain ⟨xs, hx⟩ := fnds_of_sts w0
  exact LogRuns_core a0 len0 cap0 xs a1 w hT hx (wf_i64 w1).1 (wf_i64 w1).2
end Go.Proofs.YtnejiclghnigiaaDoor
