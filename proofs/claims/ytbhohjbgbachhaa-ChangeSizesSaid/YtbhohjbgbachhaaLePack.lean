/-
  Contracts of a form's bytes, Pack and Unpack of package le.
-/
import Derived.Test.YtbhohjbgbachhaaLePut
import Derived.Test.YtbhohjbgbachhaaLeMath2
namespace Go.Proofs.Ytbhohjbgbachhaa
open Go.RowKit Go.Wag
set_option linter.unusedVariables false
set_option maxRecDepth 20000

/-- A form's bytes in all, and whether it is one; nothing old has turned. -/
def FormPost (w : World) (l : List UInt8) (e : Ending) (w' : World) : Prop :=
  e = .returned (.tuple #[.int .i64 (((fsum l).getD 0 : Nat) : Int), .bool (fsum l).isSome]) ∧ Below w.heap.size w w'

theorem iter_below (w : World) (s : ByteArray) (p : Nat) : Below w.heap.size w (w.iter s p) := (Below.refl _ _).alloc (Nat.le_refl _) _

set_option maxHeartbeats 400000 in
theorem formBytes_any (s : ByteArray) (w : World) (hs : s.size ≤ 100000000000) :
    Calls Try.prog 72 #[.string s] w (FormPost w s.data.toList) := by
  go_enter Try.func72, Try.ntmps72
  go_wp2
  go_loopw [4] (fun x w' => ∃ (pos t : Nat), w' = w.iter s pos ∧ pos ≤ s.size ∧ x = .int .i64 t ∧ Hid (fsum (s.data.toList.take pos) = some t) ∧ t ≤ 8 * pos) (fun _ w' => s.size - w'.iterPos w.heap.size)
  case atStart => exact ⟨0, 0, rfl, Nat.zero_le _, rfl, rfl, by omega⟩
  case round =>
    obtain ⟨pos, t, rfl, hpos, rfl, hf, ht⟩ := hrel
    by_cases hp : pos < s.size
    · have hl : pos < s.data.toList.length := by simpa using hp
      by_cases ha : (s[pos]'hp).toNat < 128
      · have hnx : ∀ ty, (Instr.next (.pointer (some ⟨w.heap.size, 0, none⟩)) true ty).run Try.prog (w.iter s pos) = _ := fun ty => run_next_ascii w s pos ty hp ha
        have HQ : Hid (s.data.toList[pos] = s[pos]'hp) := rfl
        by_cases hz : ltr (s[pos]'hp).toNat = 0
        · have HN : Hid (fsum s.data.toList = none) := fsum_stop hl hf.out (by rw [HQ.out]; exact hz)
          go_wp2_with (go_at_call 73; refine (letterSize_any _ _).mono ?_; rintro e w' ⟨rfl, rfl⟩)
          go_ret2
          exact ⟨by rw [HN.out]; rfl, iter_below _ _ _⟩
        · have HN : Hid (fsum (s.data.toList.take (pos + 1)) = some (t + ltr (s[pos]'hp).toNat)) := fsum_step hl hf.out (by rw [HQ.out]; exact hz)
          have hle := ltr_le (s[pos]'hp).toNat
          have hzi : (((ltr (s[pos]'hp).toNat : Nat) : Int) == 0) = false := by simp; omega
          go_wp2_with (go_at_call 73; refine (letterSize_any _ _).mono ?_; rintro e w' ⟨rfl, rfl⟩)
          exact ⟨⟨pos + 1, t + ltr (s[pos]'hp).toNat, rfl, by omega, by go_num, HN, by omega⟩, by simp; omega⟩
      · have hh := decode_high s pos hp (by omega)
        have hnx : ∀ ty, (Instr.next (.pointer (some ⟨w.heap.size, 0, none⟩)) true ty).run Try.prog (w.iter s pos) = _ := fun ty => run_next_any w s pos ty hp
        have hz : ltr ((Utf8.decode s pos).1 : Int) = 0 := ltr_high (by omega)
        have HN : Hid (fsum s.data.toList = none) := fsum_stop hl hf.out (ltr_high (c := ((s[pos]'hp).toNat : Int)) (by omega))
        go_wp2_with (go_at_call 73; refine (letterSize_any _ _).mono ?_; rintro e w' ⟨rfl, rfl⟩)
        go_ret2
        exact ⟨by rw [HN.out]; rfl, iter_below _ _ _⟩
    · have hnx : ∀ ty, (Instr.next (.pointer (some ⟨w.heap.size, 0, none⟩)) true ty).run Try.prog (w.iter s pos) = _ := fun ty => run_next_end w s pos ty hp
      have HN : Hid (fsum s.data.toList = some t) := by
        have := hf.out
        rwa [List.take_of_length_le (by simp; omega)] at this
      go_wp2
      go_ret2
      exact ⟨by rw [HN.out]; rfl, iter_below _ _ _⟩

/-- The loop of Pack: out reads as the numbers so far, and the iterator stands at pos. -/
def PackRel (l : List UInt8) (ns : List UInt64) (g t : Nat) (W0 : World) (s : ByteArray) (x : Value) (wr : World) (pos : Nat) : Prop :=
  ∃ A m c bs, x = .slice A m c ∧ Own g 5 W0 wr (.slice (some ⟨g, 0, none⟩) 0 t) (.slice A m c) m (bs.map v8) ∧ packF (l.take pos) (ns.take pos) = some bs ∧ m ≤ 8 * pos ∧ wr.heap[g + 1]? = some (.stringIter s pos)

set_option maxHeartbeats 1000000 in
theorem Pack_any (s : ByteArray) (A : Option Addr) (n c : Nat) (ns : List UInt64) (w : World) (h : Sl w A n c (ns.map v64)) (hs : s.size ≤ 100000000000) :
    Calls Try.prog 48 #[.string s, .slice A n c] w (BytesErr w (packF s.data.toList ns) 10) := by
  have HN : Hid (ns.length = n) := h.len64
  have HL : Hid (s.data.toList.length = s.size) := by show s.data.toList.length = s.size; simp
  obtain ⟨i0, hi, hz0, hz1, hz2⟩ := info_parts i5
  cases hf : fsum s.data.toList with
  | none =>
    rw [packF_none _ _ hf]
    have HF := Lib.hid hf
    clear hf
    go_enter Try.func48, Try.ntmps48
    go_wp2_with fail
    refine (formBytes_any _ _ hs).mono ?_
    rintro e w1 ⟨rfl, hb⟩
    rw [HF.out]
    go_wp2
    go_ret2
    exact ⟨none, 0, 0, rfl, Sl.nil _, Nw.nil _ _ _, hb⟩
  | some t =>
    have ht := fsum_le _ _ hf
    rw [HL.out] at ht
    by_cases hl : s.size = n
    · have HF := Lib.hid hf
      clear hf
      have hne : ((s.size : Int) != (n : Int)) = false := by simp [hl]
      have Hl := Lib.hid hl
      clear hl
      have hmk := fun W => run_mk (P := Try.prog) 35 5 i0 (.int .u8 0) 1 Try.underlying35 hi hz0 hz1 hz2 rfl .i64 .i64 (0 : Int) (t : Int) 0 t rfl rfl (by omega) (by omega) (by omega) W
      go_enter Try.func48, Try.ntmps48
      go_wp2_with fail
      refine (formBytes_any _ _ hs).mono ?_
      rintro e w1 ⟨rfl, hb⟩
      rw [HF.out]
      go_wp2
      go_loopw [8] (fun x wr => ∃ pos, pos ≤ s.size ∧ PackRel s.data.toList ns w1.heap.size t (w1.alloc (.cells (mk0 (.int .u8 0) t) 5)) s x wr pos) (fun _ wr => s.size - wr.iterPos (w1.heap.size + 1))
      case atStart =>
        refine ⟨0, Nat.zero_le _, _, 0, t, [], rfl, (Own.made w1 (.int .u8 0) 5 0 t (by omega) (by omega)).alloc _, rfl, by omega, ?_⟩
        have := World.iter_heap (w1.alloc (.cells (mk0 (.int .u8 0) t) 5)) s 0
        simpa using this
      case round =>
        obtain ⟨pos, hpos, A1, m, c1, bs, rfl, how, hpk, hm, hit⟩ := hrel
        have HP := Lib.hid hpk
        have HI := Lib.hid hit
        clear hpk hit
        have hbw : Below w.heap.size w wr := (hb.trans ((how.below ((Below.refl _ _).alloc (Nat.le_refl _) _) (by simp) (fun k hk => by simp [Value.ownBlock] at hk; omega)).mono hb.size))
        by_cases hp : pos < s.size
        · have hl : pos < s.data.toList.length := by rw [HL.out]; exact hp
          have HA : Hid ((s[pos]'hp).toNat < 128) := fsum_ascii HF.out pos hl
          have HZ : Hid (ltr (s[pos]'hp).toNat ≠ 0) := fsum_letter _ _ HF.out pos hl
          obtain ⟨w2, hw2⟩ : ∃ w2, w2 = wr.iterAt (w1.heap.size + 1) s (pos + 1) := ⟨_, rfl⟩
          have hnx : ∀ ty, (Instr.next (.pointer (some ⟨w1.heap.size + 1, 0, none⟩)) true ty).run Try.prog wr = .ok (.tuple #[.bool true, .int .i64 pos, .int .i32 (s[pos]'hp).toNat]) w2 := fun ty => by
            rw [hw2]; exact Lib.run_next_ascii_at wr _ s pos ty HI.out hp HA.out
          have how2 := how.iterAt HI.out (by simp) (pos + 1)
          rw [← hw2] at how2
          have HI2 : Hid (w2.heap[w1.heap.size + 1]? = some (.stringIter s (pos + 1))) := by
            rw [hw2]; exact Lib.iterAt_heap wr _ s pos _ HI.out
          have hbw2 : Below w.heap.size w w2 := (hb.trans ((how2.below ((Below.refl _ _).alloc (Nat.le_refl _) _) (by simp) (fun k hk => by simp [Value.ownBlock] at hk; omega)).mono hb.size))
          clear hw2
          have hpn : pos < n := by have := Hl.out; omega
          obtain ⟨ad, rfl, hba, hln, hcell⟩ := (h.below hbw2).num hpn
          have hisz : isSz (ltr (s[pos]'hp).toNat : Int) = true := ltr_isSz HZ.out
          have hle := ltr_le (s[pos]'hp).toNat
          by_cases hfit : fitsB ns[pos].toNat (ltr (s[pos]'hp).toNat) = true
          · have HS : Hid _ := packF_step hl hln HP.out HZ.out hfit
            go_wp2_with fail
            refine (letterSize_any _ _).mono ?_
            rintro e w' ⟨rfl, rfl⟩
            go_wp2_with fail
            refine (fits_any _ _ _ (by omega) (u64_lt _) hisz).mono ?_
            rintro e w' ⟨rfl, rfl⟩
            go_wp2_with fail
            refine (appendNumber_any w1.heap.size _ _ _ _ _ _ w2 how2.own how2.hbase (by omega) (u64_lt _) (by omega) (by omega) (by omega)).mono ?_
            rintro e w4 ⟨A4, c4, rfl, h4⟩
            rw [Int.toNat_natCast, Int.toNat_natCast, ← List.map_append] at h4
            rw [Int.toNat_natCast]
            have HI4 := Lib.hid (h4.kept_iter how2.own HI2.out)
            have how4 := how2.step h4
            clear h4 how2 how
            go_wp2
            exact ⟨⟨pos + 1, by omega, A4, _, c4, _, rfl, how4, HS.out, by omega, HI4.out⟩, by rw [iterPos_of HI4.out, iterPos_of HI.out]; omega⟩
          · have hfit' : fitsB ns[pos].toNat (ltr (s[pos]'hp).toNat) = false := by simpa using hfit
            have HS : Hid _ := packF_stop hl hln HP.out (.inr hfit')
            rw [HS.out]
            go_wp2_with fail
            refine (letterSize_any _ _).mono ?_
            rintro e w' ⟨rfl, rfl⟩
            go_wp2_with fail
            refine (fits_any _ _ _ (by omega) (u64_lt _) hisz).mono ?_
            rintro e w' ⟨rfl, rfl⟩
            go_wp2
            go_ret2
            exact ⟨none, 0, 0, rfl, Sl.nil _, Nw.nil _ _ _, hbw2⟩
        · have hnx : ∀ ty, (Instr.next (.pointer (some ⟨w1.heap.size + 1, 0, none⟩)) true ty).run Try.prog wr = _ := fun ty => Lib.run_next_end_at wr _ s pos ty HI.out hp
          have HS : Hid (packF s.data.toList ns = some bs) := by
            have := HP.out
            rwa [List.take_of_length_le (by rw [HL.out]; omega), List.take_of_length_le (by rw [HN.out]; have := Hl.out; omega)] at this
          go_wp2
          go_ret2
          rw [HS.out]
          exact ⟨_, _, _, rfl, how.to_sl, how.fresh.mono hb.size, hbw⟩
    · rw [packF_len _ _ (by rw [HL.out, HN.out]; exact hl)]
      have HF := Lib.hid hf
      clear hf
      have hne : ((s.size : Int) != (n : Int)) = true := by simp; omega
      clear hl
      go_enter Try.func48, Try.ntmps48
      go_wp2_with fail
      refine (formBytes_any _ _ hs).mono ?_
      rintro e w1 ⟨rfl, hb⟩
      rw [HF.out]
      go_wp2
      go_ret2
      exact ⟨none, 0, 0, rfl, Sl.nil _, Nw.nil _ _ _, hb⟩

/-- Numbers or none, and an error's number beside them; nothing old has turned. -/
def NumsErr (w : World) (r : Option (List UInt64)) (no : Int) (e : Ending) (w' : World) : Prop :=
  ∃ A n c, e = .returned (.tuple #[.slice A n c, .int .i64 (errOf r no)]) ∧ Sl w' A n c ((r.getD []).map v64) ∧ Nw 71 w w' A n c ((r.getD []).map v64) ∧ Below w.heap.size w w'

theorem sz23 : (Try.prog.info? 71).map (·.size) = some 1 := by kernel_rfl

/-- The loop of Unpack. -/
def UnpackRel (l b : List UInt8) (g t : Nat) (W0 : World) (s : ByteArray) (x a : Value) (wr : World) (pos : Nat) : Prop :=
  ∃ A m c at_ out, x = .slice A m c ∧ a = .int .i64 (at_ : Nat) ∧ Own g 71 W0 wr (.slice (some ⟨g, 0, none⟩) 0 t) (.slice A m c) m (out.map v64) ∧ unpackF (l.take pos) (b.take at_) = some out ∧ fsum (l.take pos) = some at_ ∧ m = pos ∧ wr.heap[g + 1]? = some (.stringIter s pos)

theorem fsum_take_le {l : List UInt8} {t a k : Nat} (h : fsum l = some t) (ha : fsum (l.take k) = some a) : a ≤ t := by
  have e := fsum_append (l.take k) (l.drop k)
  rw [List.take_append_drop, h, ha] at e
  cases hd : fsum (l.drop k) with
  | none => rw [hd] at e; simp at e
  | some u => rw [hd] at e; simp at e; omega

set_option maxHeartbeats 1000000 in
theorem Unpack_any (s : ByteArray) (A : Option Addr) (n c : Nat) (b : List UInt8) (w : World) (h : Sl w A n c (b.map v8)) (hs : s.size ≤ 100000000000) :
    Calls Try.prog 53 #[.string s, .slice A n c] w (NumsErr w (unpackF s.data.toList b) 10) := by
  have HN : Hid (b.length = n) := h.len8
  have HL : Hid (s.data.toList.length = s.size) := by show s.data.toList.length = s.size; simp
  have hcap := h.cap
  have hbig := h.big
  obtain ⟨i0, hi, hz0, hz1, hz2⟩ := info_parts i23
  cases hf : fsum s.data.toList with
  | none =>
    rw [unpackF_none (by rw [hf]; simp)]
    have HF := Lib.hid hf
    clear hf
    go_enter Try.func53, Try.ntmps53
    go_wp2_with fail
    refine (formBytes_any _ _ hs).mono ?_
    rintro e w1 ⟨rfl, hb⟩
    rw [HF.out]
    go_wp2
    go_ret2
    exact ⟨none, 0, 0, rfl, Sl.nil _, Nw.nil _ _ _, hb⟩
  | some t =>
    have ht := fsum_le _ _ hf
    rw [HL.out] at ht
    by_cases hl : n = t
    · have HF := Lib.hid hf
      clear hf
      have hne : ((n : Int) != (t : Int)) = false := by simp [hl]
      have Hl := Lib.hid hl
      clear hl
      have hmk := fun W => run_mk (P := Try.prog) 75 71 i0 (.int .u64 0) 8 Try.underlying75 hi hz0 hz1 hz2 rfl .i64 .i64 (0 : Int) (s.size : Int) 0 s.size rfl rfl (by omega) (by omega) (by omega) W
      go_enter Try.func53, Try.ntmps53
      go_wp2_with fail
      refine (formBytes_any _ _ hs).mono ?_
      rintro e w1 ⟨rfl, hb⟩
      rw [HF.out]
      go_wp2
      go_loopw [8, 9] (fun x a wr => ∃ pos, pos ≤ s.size ∧ UnpackRel s.data.toList b w1.heap.size s.size (w1.alloc (.cells (mk0 (.int .u64 0) s.size) 71)) s x a wr pos) (fun _ _ wr => s.size - wr.iterPos (w1.heap.size + 1))
      case atStart =>
        refine ⟨0, Nat.zero_le _, _, 0, s.size, 0, [], rfl, rfl, (Own.made w1 (.int .u64 0) 71 0 s.size (by omega) (by omega)).alloc _, rfl, rfl, rfl, ?_⟩
        have := World.iter_heap (w1.alloc (.cells (mk0 (.int .u64 0) s.size) 71)) s 0
        simpa using this
      case round =>
        obtain ⟨pos, hpos, A1, m, c1, at_, out, rfl, rfl, how, hpk, hfs, hm, hit⟩ := hrel
        obtain rfl : m = pos := hm
        have HP := Lib.hid hpk
        have HI := Lib.hid hit
        have HS := Lib.hid hfs
        clear hpk hit hfs
        have hbw : Below w.heap.size w wr := (hb.trans ((how.below ((Below.refl _ _).alloc (Nat.le_refl _) _) (by simp) (fun k hk => by simp [Value.ownBlock] at hk; omega)).mono hb.size))
        by_cases hp : m < s.size
        · have hl : m < s.data.toList.length := by rw [HL.out]; exact hp
          have HA : Hid ((s[m]'hp).toNat < 128) := fsum_ascii HF.out m hl
          have HZ : Hid (ltr (s[m]'hp).toNat ≠ 0) := fsum_letter _ _ HF.out m hl
          have HS2 : Hid (fsum (s.data.toList.take (m + 1)) = some (at_ + ltr (s[m]'hp).toNat)) := fsum_step hl HS.out HZ.out
          have hat : at_ + ltr (s[m]'hp).toNat ≤ n := by rw [Hl.out]; exact fsum_take_le HF.out HS2.out
          obtain ⟨w2, hw2⟩ : ∃ w2, w2 = wr.iterAt (w1.heap.size + 1) s (m + 1) := ⟨_, rfl⟩
          have hnx : ∀ ty, (Instr.next (.pointer (some ⟨w1.heap.size + 1, 0, none⟩)) true ty).run Try.prog wr = .ok (.tuple #[.bool true, .int .i64 m, .int .i32 (s[m]'hp).toNat]) w2 := fun ty => by
            rw [hw2]; exact Lib.run_next_ascii_at wr _ s m ty HI.out hp HA.out
          have how2 := how.iterAt HI.out (by simp) (m + 1)
          rw [← hw2] at how2
          have HI2 : Hid (w2.heap[w1.heap.size + 1]? = some (.stringIter s (m + 1))) := by
            rw [hw2]; exact Lib.iterAt_heap wr _ s m _ HI.out
          have hbw2 : Below w.heap.size w w2 := (hb.trans ((how2.below ((Below.refl _ _).alloc (Nat.le_refl _) _) (by simp) (fun k hk => by simp [Value.ownBlock] at hk; omega)).mono hb.size))
          clear hw2
          have hle := ltr_le (s[m]'hp).toNat
          have hcut := fun W => run_cut2 (P := Try.prog) 35 5 un22 el22 sz5 A n c .i64 .i64 (at_ : Int) ((at_ : Int) + (ltr (s[m]'hp).toNat : Int)) at_ (at_ + ltr (s[m]'hp).toNat) rfl (by omega) (by omega) (by omega) W
          have HC := (h.below hbw2).cut (k := at_) (m := at_ + ltr (s[m]'hp).toNat) (by omega) hat
          rw [← List.map_take, ← List.map_drop, Nat.add_sub_cancel_left] at HC
          simp only [Nat.add_sub_cancel_left] at hcut
          have HU : Hid _ := unpackF_step hl HP.out HZ.out (by rw [HN.out]; exact hat)
          go_wp2_with fail
          refine (letterSize_any _ _).mono ?_
          rintro e w' ⟨rfl, rfl⟩
          go_wp2_with fail
          refine (number_any _ _ _ _ w2 HC (by omega)).mono ?_
          rintro e w' ⟨rfl, rfl⟩
          go_wp2_with (at_builtin; refine wpList_app rfl (.tmp 36) (.tmp 44) 75 rfl rfl ((Own.start how2.own how2.hbase).alloc _) i0 (.int .u64 0) 8 Try.underlying75 hi hz0 hz1 hz2 rfl _ 1 1 _ rfl (Sl.one _ _ _) ?_ ?_ ?_ ?_)
          · intro u hu; simp at hu; subst hu; rfl
          · omega
          · omega
          intro A4 c4 w4 hw4
          have HI4 := Lib.hid (hw4.kept_iter how2.own HI2.out)
          have how4 := how2.step hw4
          have e4 : out.map v64 ++ [Value.int .u64 (lev ((b.take (at_ + ltr (s[m]'hp).toNat)).drop at_) : Int)] = (out ++ [UInt64.ofNat (lev ((b.take (at_ + ltr (s[m]'hp).toNat)).drop at_))]).map v64 := by
            rw [List.map_append, List.map_cons, List.map_nil, v64_lev _ (by rw [List.length_drop, List.length_take]; omega)]
          rw [e4] at how4
          clear hw4 how2 how e4
          go_wp2
          exact ⟨⟨m + 1, by omega, A4, _, c4, _, _, rfl, by go_num, how4, HU.out, HS2.out, rfl, HI4.out⟩, by rw [iterPos_of HI4.out, iterPos_of HI.out]; omega⟩
        · have hnx : ∀ ty, (Instr.next (.pointer (some ⟨w1.heap.size + 1, 0, none⟩)) true ty).run Try.prog wr = _ := fun ty => Lib.run_next_end_at wr _ s m ty HI.out hp
          have HU : Hid (unpackF s.data.toList b = some out) := by
            have e1 := HP.out
            have e2 := HS.out
            rw [List.take_of_length_le (by rw [HL.out]; omega)] at e1 e2
            rw [HF.out] at e2
            obtain rfl : t = at_ := by simpa using e2
            rwa [List.take_of_length_le (by rw [HN.out, Hl.out]; exact Nat.le_refl _)] at e1
          go_wp2
          go_ret2
          rw [HU.out]
          exact ⟨_, _, _, rfl, how.to_sl, how.fresh.mono hb.size, hbw⟩
    · rw [unpackF_none (by rw [hf, HN.out]; simp; omega)]
      have HF := Lib.hid hf
      clear hf
      have hne : ((n : Int) != (t : Int)) = true := by simp; omega
      clear hl
      go_enter Try.func53, Try.ntmps53
      go_wp2_with fail
      refine (formBytes_any _ _ hs).mono ?_
      rintro e w1 ⟨rfl, hb⟩
      rw [HF.out]
      go_wp2
      go_ret2
      exact ⟨none, 0, 0, rfl, Sl.nil _, Nw.nil _ _ _, hb⟩
end Go.Proofs.Ytbhohjbgbachhaa
