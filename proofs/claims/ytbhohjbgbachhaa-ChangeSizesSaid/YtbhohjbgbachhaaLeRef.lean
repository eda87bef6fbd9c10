/-
  Contracts of the document's Pack and Unpack, and of Same.
-/
import Derived.Test.YtbhohjbgbachhaaLePack
import Derived.Deep.RegionHeld3
import Derived.Deep.DrawnRows
namespace Go.Proofs.Ytbhohjbgbachhaa
open Go.RowKit Go.Wag
set_option linter.unusedVariables false
set_option maxRecDepth 20000
attribute [local go_sem ↓] Go.wp_at_zero Go.wp_at_succ

def BytesOk (w : World) (r : List UInt8) (e : Ending) (w' : World) : Prop := ∃ A n c, e = .returned (.tuple #[.slice A n c, .int .i64 0]) ∧ Sl w' A n c (r.map v8) ∧ Nw 5 w w' A n c (r.map v8) ∧ Below w.heap.size w w'
def BytesNo (w : World) (no : Int) (e : Ending) (w' : World) : Prop := ∃ A n c, e = .returned (.tuple #[.slice A n c, .int .i64 no]) ∧ Sl w' A n c (([] : List UInt8).map v8) ∧ Nw 5 w w' A n c (([] : List UInt8).map v8) ∧ Below w.heap.size w w'
theorem BytesErr.ok {P : Program} {f : FuncId} {args : Array Value} {w : World} {r : Option (List UInt8)} {no : Int} {l : List UInt8} (h : Calls P f args w (BytesErr w r no)) (hr : r = some l) : Calls P f args w (BytesOk w l) := by
  subst hr
  exact h.mono fun e w' ⟨A, n, c, he, hs, hf, hb⟩ => ⟨A, n, c, he, hs, hf, hb⟩
theorem BytesErr.no {P : Program} {f : FuncId} {args : Array Value} {w : World} {r : Option (List UInt8)} {no : Int} (h : Calls P f args w (BytesErr w r no)) (hr : r = none) : Calls P f args w (BytesNo w no) := by
  subst hr
  exact h.mono fun e w' ⟨A, n, c, he, hs, hf, hb⟩ => ⟨A, n, c, he, hs, hf, hb⟩
def NumOk (w : World) (x : Nat) (r : List UInt8) (e : Ending) (w' : World) : Prop := ∃ A n c, e = .returned (.tuple #[.int .u64 (x : Int), .slice A n c, .int .i64 0]) ∧ Sl w' A n c (r.map v8) ∧ Nw 5 w w' A n c (r.map v8) ∧ Below w.heap.size w w'
def NumNo (w : World) (no : Int) (e : Ending) (w' : World) : Prop := ∃ A n c, e = .returned (.tuple #[.int .u64 0, .slice A n c, .int .i64 no]) ∧ Sl w' A n c (([] : List UInt8).map v8) ∧ Nw 5 w w' A n c (([] : List UInt8).map v8) ∧ Below w.heap.size w w'
theorem NumErr.ok {P : Program} {f : FuncId} {args : Array Value} {w : World} {r : Option (Nat × List UInt8)} {no : Int} {x : Nat} {l : List UInt8} (h : Calls P f args w (NumErr w r no)) (hr : r = some (x, l)) : Calls P f args w (NumOk w x l) := by
  subst hr
  exact h.mono fun e w' ⟨A, n, c, he, hs, hf, hb⟩ => ⟨A, n, c, he, hs, hf, hb⟩
theorem NumErr.no {P : Program} {f : FuncId} {args : Array Value} {w : World} {r : Option (Nat × List UInt8)} {no : Int} (h : Calls P f args w (NumErr w r no)) (hr : r = none) : Calls P f args w (NumNo w no) := by
  subst hr
  exact h.mono fun e w' ⟨A, n, c, he, hs, hf, hb⟩ => ⟨A, n, c, he, hs, hf, hb⟩
def NumsOk (w : World) (r : List UInt64) (e : Ending) (w' : World) : Prop := ∃ A n c, e = .returned (.tuple #[.slice A n c, .int .i64 0]) ∧ Sl w' A n c (r.map v64) ∧ Nw 71 w w' A n c (r.map v64) ∧ Below w.heap.size w w'
def NumsNo (w : World) (no : Int) (e : Ending) (w' : World) : Prop := ∃ A n c, e = .returned (.tuple #[.slice A n c, .int .i64 no]) ∧ Sl w' A n c (([] : List UInt64).map v64) ∧ Nw 71 w w' A n c (([] : List UInt64).map v64) ∧ Below w.heap.size w w'
theorem NumsErr.ok {P : Program} {f : FuncId} {args : Array Value} {w : World} {r : Option (List UInt64)} {no : Int} {l : List UInt64} (h : Calls P f args w (NumsErr w r no)) (hr : r = some l) : Calls P f args w (NumsOk w l) := by
  subst hr
  exact h.mono fun e w' ⟨A, n, c, he, hs, hf, hb⟩ => ⟨A, n, c, he, hs, hf, hb⟩
theorem NumsErr.no {P : Program} {f : FuncId} {args : Array Value} {w : World} {r : Option (List UInt64)} {no : Int} (h : Calls P f args w (NumsErr w r no)) (hr : r = none) : Calls P f args w (NumsNo w no) := by
  subst hr
  exact h.mono fun e w' ⟨A, n, c, he, hs, hf, hb⟩ => ⟨A, n, c, he, hs, hf, hb⟩

theorem putF_ltr {bs : List UInt8} {c : UInt8} {x : UInt64} (hc : ltr c.toNat ≠ 0) (hf : fitsB x.toNat (ltr c.toNat) = true) : putF bs ((x.toNat : Int)).toNat (ltr c.toNat : Int) = some (bs ++ leb (ltr c.toNat) x.toNat) := by
  rw [putF_yes (ltr_isSz hc) (by simpa using hf)]
  simp
theorem putF_ltr_no {bs : List UInt8} {c : UInt8} {x : UInt64} (h : ltr c.toNat = 0 ∨ fitsB x.toNat (ltr c.toNat) = false) : putF bs ((x.toNat : Int)).toNat (ltr c.toNat : Int) = none := by
  rcases h with h | h
  · rw [h]; exact putF_no (.inl rfl)
  · exact putF_no (.inr (by simpa using h))

/-- The loop of the document's Pack. -/
def RefPackRel (l : List UInt8) (ns : List UInt64) (w : World) (x : Value) (wr : World) (pos : Nat) : Prop :=
  ∃ A m c bs, x = .slice A m c ∧ Sl wr A m c (bs.map v8) ∧ packF (l.take pos) (ns.take pos) = some bs ∧ m ≤ 8 * pos ∧ Nw 5 w wr A m c (bs.map v8) ∧ Below w.heap.size w wr

set_option maxHeartbeats 1000000 in
theorem refPack_any (s : ByteArray) (A : Option Addr) (n c : Nat) (ns : List UInt64) (w : World) (h : Sl w A n c (ns.map v64)) (hs : s.size ≤ 100000000000) :
    Calls Try.prog 51 #[.string s, .slice A n c] w (BytesErr w (packF s.data.toList ns) 10) := by
  have HN : Hid (ns.length = n) := h.len64
  have HL : Hid (s.data.toList.length = s.size) := by show s.data.toList.length = s.size; simp
  by_cases hl : s.size = n
  · have hne : ((s.size : Int) != (n : Int)) = false := by simp [hl]
    have Hl := Lib.hid hl
    clear hl
    go_enter Try.func51, Try.ntmps51
    go_wp2
    go_loopw [6, 7] (fun x i wr => ∃ pos : Nat, pos ≤ s.size ∧ i = .int .i64 pos ∧ RefPackRel s.data.toList ns w x wr pos) (fun _ i _ => s.size - (intOf i).toNat)
    case atStart => exact ⟨0, Nat.zero_le _, rfl, none, 0, 0, [], rfl, Sl.nil _, rfl, by omega, Nw.nil _ _ _, Below.refl _ _⟩
    case round =>
      obtain ⟨pos, hpos, rfl, A1, m, c1, bs, rfl, hsl, hpk, hm, hfr, hbw⟩ := hrel
      have HP := Lib.hid hpk
      clear hpk
      by_cases hp : pos < s.size
      · have hl : pos < s.data.toList.length := by rw [HL.out]; exact hp
        have hpn : pos < n := by have := Hl.out; omega
        have hpi : (pos : Int) < (n : Int) := by omega
        have hpi2 : (pos : Int) < (s.size : Int) := by omega
        obtain ⟨ad, rfl, hba, hln, hcell⟩ := (h.below hbw).num hpn
        by_cases hok : ltr (s[pos]'hp).toNat ≠ 0 ∧ fitsB ns[pos].toNat (ltr (s[pos]'hp).toNat) = true
        · have HS : Hid _ := packF_step hl hln HP.out hok.1 hok.2
          have HQ : Hid (putF bs ((ns[pos].toNat : Int)).toNat (ltr (s[pos]'hp).toNat : Int) = some (bs ++ leb (ltr (s[pos]'hp).toNat) ns[pos].toNat)) := putF_ltr (c := s[pos]'hp) hok.1 hok.2
          have hle := ltr_le (s[pos]'hp).toNat
          clear hok
          go_wp2_with fail
          go_region_held3 (fun w' => w'.cell? (ad.add pos) = some (.int .u64 (ns[pos].toNat : Int))) (first | go_keep | exact (hb4.cell (p := ad.add pos) (by rw [add_block]; exact hba)).trans hcell) (first | (go_at_call 78; refine (refSize_any _ _).mono ?_; rintro e w' ⟨rfl, rfl⟩) | (go_at_call 77; refine (BytesErr.ok (refPut_any _ _ _ bs _ _ _ (by exact hsl.drew) (by omega) (by omega) (u64_lt _)) HQ.out).mono ?_; rintro e w' ⟨A4, m4, c4, rfl, hsl4, hf4, hb4⟩))
          have hm4 : m4 ≤ 8 * (pos + 1) := by
            have h1 := hsl4.len8
            have h2 := hsl.len8
            rw [List.length_append, leb_length] at h1
            omega
          have hbw4 : Below w.heap.size w w' := hbw.drew.trans (hb4.mono hbw.size)
          clear hsl hcell hb4
          go_wp2
          exact ⟨⟨pos + 1, by omega, by go_num, A4, m4, c4, _, rfl, hsl4, HS.out, hm4, hf4.mono hbw.size, hbw4⟩, by simp [intOf]; omega⟩
        · have hno : ltr (s[pos]'hp).toNat = 0 ∨ fitsB ns[pos].toNat (ltr (s[pos]'hp).toNat) = false := by
            by_cases h0 : ltr (s[pos]'hp).toNat = 0
            · exact .inl h0
            · exact .inr (by simpa using fun h1 => hok ⟨h0, h1⟩)
          have HS : Hid _ := packF_stop hl hln HP.out hno
          have HQ : Hid (putF bs ((ns[pos].toNat : Int)).toNat (ltr (s[pos]'hp).toNat : Int) = none) := putF_ltr_no (c := s[pos]'hp) hno
          have hle := ltr_le (s[pos]'hp).toNat
          clear hok hno
          go_wp2_with fail
          go_region_held3 (fun w' => w'.cell? (ad.add pos) = some (.int .u64 (ns[pos].toNat : Int))) (first | go_keep | exact (hb4.cell (p := ad.add pos) (by rw [add_block]; exact hba)).trans hcell) (first | (go_at_call 78; refine (refSize_any _ _).mono ?_; rintro e w' ⟨rfl, rfl⟩) | (go_at_call 77; refine (BytesErr.no (refPut_any _ _ _ bs _ _ _ (by exact hsl.drew) (by omega) (by omega) (u64_lt _)) HQ.out).mono ?_; rintro e w' ⟨A4, m4, c4, rfl, hsl4, hf4, hb4⟩))
          have hbw4 : Below w.heap.size w w' := hbw.drew.trans (hb4.mono hbw.size)
          clear hsl hcell hb4
          go_wp2
          go_ret2
          rw [HS.out]
          exact ⟨none, 0, 0, rfl, Sl.nil _, Nw.nil _ _ _, hbw4⟩
      · have HS : Hid (packF s.data.toList ns = some bs) := by
          have := HP.out
          rwa [List.take_of_length_le (by rw [HL.out]; omega), List.take_of_length_le (by rw [HN.out]; have := Hl.out; omega)] at this
        go_wp2
        go_ret2
        rw [HS.out]
        exact ⟨_, _, _, rfl, hsl, hfr, hbw⟩
  · rw [packF_len _ _ (by rw [HL.out, HN.out]; exact hl)]
    have hne : ((s.size : Int) != (n : Int)) = true := by simp; omega
    clear hl
    go_enter Try.func51, Try.ntmps51
    go_wp2
    go_ret2
    exact ⟨none, 0, 0, rfl, Sl.nil _, Nw.nil _ _ _, Below.refl _ _⟩

theorem takeF_ltr {b : List UInt8} {c : UInt8} (hc : ltr c.toNat ≠ 0) (hl : ltr c.toNat ≤ b.length) : takeF b (ltr c.toNat : Int) = some (lev (b.take (ltr c.toNat)), b.drop (ltr c.toNat)) := by
  rw [takeF_yes (ltr_isSz hc) (by simpa using hl)]
  simp
theorem takeF_ltr_no {b : List UInt8} {c : UInt8} (h : ltr c.toNat = 0 ∨ b.length < ltr c.toNat) : takeF b (ltr c.toNat : Int) = none := by
  rcases h with h | h
  · rw [h]; exact takeF_no (.inl rfl)
  · exact takeF_no (.inr (by simp; omega))

/-- The loop of the document's Unpack: what is left of form and bytes gives what is still to come. -/
def RefUnpackRel (l b : List UInt8) (w : World) (g : Nat) (x y : Value) (wr : World) (pos : Nat) : Prop :=
  ∃ A m c out A' m' c' rest, x = .slice A m c ∧ y = .slice A' m' c' ∧ Own g 71 w wr (.slice none 0 0) (.slice A m c) m (out.map v64) ∧ Sl wr A' m' c' (rest.map v8) ∧ unpackF l b = (unpackF (l.drop pos) rest).map (out ++ ·) ∧ m = pos ∧ m' ≤ 10000000000000

theorem drop_cons {l : List UInt8} {k : Nat} (hk : k < l.length) : l.drop k = l[k] :: l.drop (k + 1) := List.drop_eq_getElem_cons hk

set_option maxHeartbeats 1000000 in
theorem refUnpack_any (s : ByteArray) (A : Option Addr) (n c : Nat) (b : List UInt8) (w : World) (h : Sl w A n c (b.map v8)) (hs : s.size ≤ 100000000000) (hn : n ≤ 10000000000000) :
    Calls Try.prog 56 #[.string s, .slice A n c] w (NumsErr w (unpackF s.data.toList b) 10) := by
  have HL : Hid (s.data.toList.length = s.size) := by show s.data.toList.length = s.size; simp
  obtain ⟨i0, hi, hz0, hz1, hz2⟩ := info_parts i23
  go_enter Try.func56, Try.ntmps56
  go_wp2
  go_loopw [6, 1, 7] (fun x y i wr => ∃ pos : Nat, pos ≤ s.size ∧ i = .int .i64 pos ∧ RefUnpackRel s.data.toList b w w.heap.size x y wr pos) (fun _ _ i _ => s.size - (intOf i).toNat)
  case atStart => exact ⟨0, Nat.zero_le _, rfl, none, 0, 0, [], A, n, c, b, rfl, rfl, Own.start (World.ownsRow_nil _ _ _ _) (Nat.le_refl _), h, by simp, rfl, hn⟩
  case round =>
    obtain ⟨pos, hpos, rfl, A1, m, c1, out, A2, m2, c2, rest, rfl, rfl, how, hsl, hpk, hm, hm2⟩ := hrel
    obtain rfl : m = pos := hm
    have HP := Lib.hid hpk
    clear hpk
    have hbw : Below w.heap.size w wr := how.below (Below.refl _ _) (Nat.le_refl _) (fun k hk => by simp [Value.ownBlock] at hk)
    by_cases hp : m < s.size
    · have hl : m < s.data.toList.length := by rw [HL.out]; exact hp
      have hpi2 : (m : Int) < (s.size : Int) := by omega
      have HD : Hid (s.data.toList.drop m = s[m]'hp :: s.data.toList.drop (m + 1)) := drop_cons hl
      have hle := ltr_le (s[m]'hp).toNat
      by_cases hok : ltr (s[m]'hp).toNat ≠ 0 ∧ ltr (s[m]'hp).toNat ≤ rest.length
      · have HQ : Hid (takeF rest (ltr (s[m]'hp).toNat : Int) = some (lev (rest.take (ltr (s[m]'hp).toNat)), rest.drop (ltr (s[m]'hp).toNat))) := takeF_ltr (c := s[m]'hp) hok.1 hok.2
        have HU : Hid (unpackF s.data.toList b = (unpackF (s.data.toList.drop (m + 1)) (rest.drop (ltr (s[m]'hp).toNat))).map ((out ++ [UInt64.ofNat (lev (rest.take (ltr (s[m]'hp).toNat)))]) ++ ·)) := by
          have hn : ¬ (ltr (s[m]'hp).toNat = 0 ∨ rest.length < ltr (s[m]'hp).toNat) := by
            rintro (e | e)
            · exact hok.1 e
            · omega
          show _ = _
          rw [HP.out, HD.out, unpackF, if_neg hn]
          cases unpackF (s.data.toList.drop (m + 1)) (rest.drop (ltr (s[m]'hp).toNat)) <;> simp
        clear hok
        go_wp2_with fail
        refine (refSize_any _ _).mono ?_
        rintro e w' ⟨rfl, rfl⟩
        go_wp2_with fail
        refine (NumErr.ok (refTake_any _ _ _ rest _ _ hsl hm2) HQ.out).mono ?_
        rintro e w4 ⟨A4, m4, c4, rfl, hsl4, hf4, hb4⟩
        have how4 := (Own.start how.own how.hbase).over hb4
        go_wp2_with (at_builtin; refine wpList_app rfl (.tmp 29) (.tmp 31) 75 rfl rfl ((Own.start how4.own how4.hbase).alloc _) i0 (.int .u64 0) 8 Try.underlying75 hi hz0 hz1 hz2 rfl _ 1 1 _ rfl (Sl.one _ _ _) ?_ ?_ ?_ ?_)
        · intro u hu; simp at hu; subst hu; rfl
        · omega
        · omega
        intro A5 c5 w5 hw5
        have hsl5 := hsl4.apart hf4.fr how.own hw5
        have how5 := (how.step how4).step hw5
        have e5 : out.map v64 ++ [Value.int .u64 (lev (rest.take (ltr (s[m]'hp).toNat)) : Int)] = (out ++ [UInt64.ofNat (lev (rest.take (ltr (s[m]'hp).toNat)))]).map v64 := by
          rw [List.map_append, List.map_cons, List.map_nil, v64_lev _ (by rw [List.length_take]; omega)]
        rw [e5] at how5
        have hm4 : m4 ≤ 10000000000000 := by
          have h1 := hsl4.len8
          have h2 := hsl.len8
          rw [List.length_drop] at h1
          omega
        clear hsl4 hsl how how4 hw5 e5 hb4 hf4
        go_wp2
        exact ⟨⟨m + 1, by omega, by go_num, A5, _, c5, _, A4, m4, c4, _, rfl, rfl, how5, hsl5, HU.out, rfl, hm4⟩, by simp [intOf]; omega⟩
      · have hno : ltr (s[m]'hp).toNat = 0 ∨ rest.length < ltr (s[m]'hp).toNat := by omega
        have HQ : Hid (takeF rest (ltr (s[m]'hp).toNat : Int) = none) := takeF_ltr_no (c := s[m]'hp) hno
        have HU : Hid (unpackF s.data.toList b = none) := by
          show _ = _
          rw [HP.out, HD.out, unpackF, if_pos hno]
          rfl
        clear hok hno
        go_wp2_with fail
        refine (refSize_any _ _).mono ?_
        rintro e w' ⟨rfl, rfl⟩
        go_wp2_with fail
        refine (NumErr.no (refTake_any _ _ _ rest _ _ hsl hm2) HQ.out).mono ?_
        rintro e w4 ⟨A4, m4, c4, rfl, hsl4, hf4, hb4⟩
        go_wp2
        go_ret2
        rw [HU.out]
        exact ⟨none, 0, 0, rfl, Sl.nil _, Nw.nil _ _ _, hbw.trans (hb4.mono hbw.size)⟩
    · have HD : Hid (s.data.toList.drop m = []) := List.drop_eq_nil_of_le (by rw [HL.out]; omega)
      have HE := Lib.hid hsl.len8
      by_cases h0 : m2 = 0
      · subst h0
        have HU : Hid (unpackF s.data.toList b = some out) := by
          show _ = _
          rw [HP.out, HD.out, List.eq_nil_of_length_eq_zero HE.out]
          simp [unpackF]
        go_wp2
        go_ret2
        rw [HU.out]
        exact ⟨_, _, _, rfl, how.to_sl, how.fresh, hbw⟩
      · have h0' : (0 : Int) < (m2 : Int) := by omega
        have HU : Hid (unpackF s.data.toList b = none) := by
          show _ = _
          have : rest ≠ [] := fun e => by have := HE.out; rw [e] at this; simp at this; omega
          rw [HP.out, HD.out]
          simp [unpackF, this]
        go_wp2
        go_ret2
        rw [HU.out]
        exact ⟨none, 0, 0, rfl, Sl.nil _, Nw.nil _ _ _, hbw⟩

/-- Lists of numbers held against each other: the world is as it was, but for draws. -/
def SamePost (w : World) (r : Bool) (e : Ending) (w' : World) : Prop := e = .returned (.bool r) ∧ ∃ q, w' = w.drewN q

theorem same_no {xs ys : List UInt64} {k : Nat} (h1 : k < xs.length) (h2 : k < ys.length) (h : xs[k].toNat ≠ ys[k].toNat) : decide (xs = ys) = false := by
  simp only [decide_eq_false_iff_not]
  rintro rfl
  exact h rfl

end Go.Proofs.Ytbhohjbgbachhaa
