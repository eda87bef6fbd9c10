/-
  Texts that the walks lean on, one behind the other: Dev7, Dev8, Dev9, DevPure, DevPure2, Log1, Flt, Log2, Log3, SortMath, Strs2.
-/
import Derived.MapKept
import Derived.Carry
import Derived.Laws.FloatArith
import Derived.Laws.ComplexArith
import Derived.Laws.Cover2
import Derived.WalkMore
import Derived.Deep.Cut
import Derived.Test.YtnejiclghnigiaaDoorMergB
namespace Go.Proofs.YtnejiclghnigiaaDoor
open Go.RowKit Go.Wag
set_option linter.unusedVariables false
set_option maxRecDepth 20000

theorem push_set (w : World) (o o' : Obj) : { (w.alloc o) with heap := (w.alloc o).heap.setIfInBounds w.heap.size o' } = w.alloc o' := by
  unfold World.alloc
  simp [Array.setIfInBounds, Array.set_push]
theorem run_putm (w : World) (es es' : Array MapEntry) (clock : Nat) (a : Int) (val : Value) (hf : Instr.findNow (.int .i64) (.int .i64 a) es.toList 0 = some none) (he : es' = es.push ⟨.int .i64 a, val, clock⟩) :
    (Instr.mapUpdate 114 (.map (some w.heap.size)) (.int .i64 a) val).run Tryd.prog (w.alloc (.map es clock)) = .ok () (w.alloc (.map es' (clock + 1))) := by
  have hb := (MapKept.heap_alloc w (.map es clock)).1
  have hc : (Instr.checkKey false 10000 3 (.int .i64 a)).run Tryd.prog (w.alloc (.map es clock)) = .ok () (w.alloc (.map es clock)) := MapKept.run_checkKey (k := .int .i64 a) Tryd.underlying3 (by simp [MapKept.IsKey]) false 9999
  simp [Instr.mapUpdate, run_underlying Tryd.underlying114, MapKept.run_getObj_map hb, hc, MapKept.run_findKey Tryd.underlying3 hf, MapKept.run_setObj_map _ hb, Result.andThen, he]
  exact push_set w _ _
theorem run_lookm (W : World) (r : Nat) (es : Array MapEntry) (clock : Nat) (kd : Int) (hb : W.heap[r]? = some (.map es clock)) (i : Nat) (v : Value) (hf : Instr.findNow (.int .i64) (.int .i64 kd) es.toList 0 = some (some (i, v))) :
    (Instr.lookup 114 (.map (some r)) (.int .i64 kd) true).run Tryd.prog W = .ok (.tuple #[v, .bool true]) W := by
  have hc : (Instr.checkKey es.isEmpty 10000 3 (.int .i64 kd)).run Tryd.prog W = .ok () W := MapKept.run_checkKey (k := .int .i64 kd) Tryd.underlying3 (by simp [MapKept.IsKey]) _ 9999
  simp [Instr.lookup, run_underlying Tryd.underlying114, MapKept.run_getObj_map hb, hc, MapKept.run_findKey Tryd.underlying3 hf, Result.andThen]
theorem run_lookm_no (W : World) (r : Nat) (es : Array MapEntry) (clock : Nat) (kd : Int) (hb : W.heap[r]? = some (.map es clock)) (hf : Instr.findNow (.int .i64) (.int .i64 kd) es.toList 0 = some none) :
    (Instr.lookup 114 (.map (some r)) (.int .i64 kd) true).run Tryd.prog W = .ok (.tuple #[.nilFunc, .bool false]) W := by
  have hc : (Instr.checkKey es.isEmpty 10000 3 (.int .i64 kd)).run Tryd.prog W = .ok () W := MapKept.run_checkKey (k := .int .i64 kd) Tryd.underlying3 (by simp [MapKept.IsKey]) _ 9999
  have hz : (zeroValue 112).run Tryd.prog W = .ok (.nilFunc) W := by kernel_rfl
  simp [Instr.lookup, run_underlying Tryd.underlying114, MapKept.run_getObj_map hb, hc, MapKept.run_findKey Tryd.underlying3 hf, Result.andThen, hz]

def cmdES : Array MapEntry := #[⟨.int .i64 1, .func (.func 73) #[] #[], 0⟩, ⟨.int .i64 2, .func (.func 74) #[] #[], 1⟩, ⟨.int .i64 3, .func (.func 75) #[] #[], 2⟩, ⟨.int .i64 4, .func (.func 76) #[] #[], 3⟩, ⟨.int .i64 5, .func (.func 77) #[] #[], 4⟩]
theorem dcommands_any (w : World) : Calls Tryd.prog 65 #[] w fun e w' => e = .returned (.map (some w.heap.size)) ∧ w' = w.alloc (.map cmdES 5) := by
  have hm := run_makeMap (P := Tryd.prog) 114 w
  have h0 := run_putm w #[] #[⟨.int .i64 1, .func (.func 73) #[] #[], 0⟩] 0 1 (.func (.func 73) #[] #[]) rfl rfl
  have h1 := run_putm w #[⟨.int .i64 1, .func (.func 73) #[] #[], 0⟩] #[⟨.int .i64 1, .func (.func 73) #[] #[], 0⟩, ⟨.int .i64 2, .func (.func 74) #[] #[], 1⟩] 1 2 (.func (.func 74) #[] #[]) rfl rfl
  have h2 := run_putm w #[⟨.int .i64 1, .func (.func 73) #[] #[], 0⟩, ⟨.int .i64 2, .func (.func 74) #[] #[], 1⟩] #[⟨.int .i64 1, .func (.func 73) #[] #[], 0⟩, ⟨.int .i64 2, .func (.func 74) #[] #[], 1⟩, ⟨.int .i64 3, .func (.func 75) #[] #[], 2⟩] 2 3 (.func (.func 75) #[] #[]) rfl rfl
  have h3 := run_putm w #[⟨.int .i64 1, .func (.func 73) #[] #[], 0⟩, ⟨.int .i64 2, .func (.func 74) #[] #[], 1⟩, ⟨.int .i64 3, .func (.func 75) #[] #[], 2⟩] #[⟨.int .i64 1, .func (.func 73) #[] #[], 0⟩, ⟨.int .i64 2, .func (.func 74) #[] #[], 1⟩, ⟨.int .i64 3, .func (.func 75) #[] #[], 2⟩, ⟨.int .i64 4, .func (.func 76) #[] #[], 3⟩] 3 4 (.func (.func 76) #[] #[]) rfl rfl
  have h4 := run_putm w #[⟨.int .i64 1, .func (.func 73) #[] #[], 0⟩, ⟨.int .i64 2, .func (.func 74) #[] #[], 1⟩, ⟨.int .i64 3, .func (.func 75) #[] #[], 2⟩, ⟨.int .i64 4, .func (.func 76) #[] #[], 3⟩] #[⟨.int .i64 1, .func (.func 73) #[] #[], 0⟩, ⟨.int .i64 2, .func (.func 74) #[] #[], 1⟩, ⟨.int .i64 3, .func (.func 75) #[] #[], 2⟩, ⟨.int .i64 4, .func (.func 76) #[] #[], 3⟩, ⟨.int .i64 5, .func (.func 77) #[] #[], 4⟩] 4 5 (.func (.func 77) #[] #[]) rfl rfl
  simp only [Nat.zero_add, Nat.reduceAdd] at h0 h1 h2 h3 h4
  go_enter Tryd.func65, Tryd.ntmps65
  go_wp2
  go_ret
  exact ⟨rfl, rfl⟩

/-- Whether a device is up; what the counts are behind a command; what a command makes of the zones, and its error. -/
def upF (lf : Int) (dw : Bool) : Bool := !(dw || lf == 0)
def cmdZs (size : Int) (zs : List Zp) (kd N : Int) (b : List UInt8) : List Zp :=
  if kd = 1 then chgZs zs N (apH size (openF zs) b) (apE size (openF zs) b) else if kd = 2 then chgZs zs N rsH rsE else if kd = 3 then chgZs zs N fiH fiE else if kd = 4 then chgZs zs N clH clE else if kd = 5 then zs.map fsZ else zs
def cmdEr (size : Int) (zs : List Zp) (kd N : Int) (b : List UInt8) : Int :=
  if kd = 1 then chgEr zs N (apE size (openF zs) b) else if kd = 2 then chgEr zs N rsE else if kd = 3 then chgEr zs N fiE else if kd = 4 then chgEr zs N clE else if kd = 5 then 0 else 1
def goF (size lf : Int) (dw : Bool) (zs : List Zp) : Bool := devF size zs && upF lf dw
def ruLf (size lf : Int) (dw : Bool) (zs : List Zp) : Int := if goF size lf dw zs then (if 0 < lf then lf - 1 else lf) else lf
def ruDw (size lf : Int) (dw : Bool) (zs : List Zp) : Bool := if devF size zs && !upF lf dw then true else dw
def ruDn (size lf dn : Int) (dw : Bool) (zs : List Zp) : Int := if goF size lf dw zs then wrap64 (dn + 1) else dn
def ruZs (size lf : Int) (dw : Bool) (zs : List Zp) (kd N : Int) (b : List UInt8) : List Zp := if goF size lf dw zs then cmdZs size zs kd N b else zs
def ruEr (size lf : Int) (dw : Bool) (zs : List Zp) (kd N : Int) (b : List UInt8) : Int := if devF size zs then (if upF lf dw then cmdEr size zs kd N b else 40) else 1

theorem Wk.left {BB kw g : Nat} {w : World} {size lf dn : Int} {dw : Bool} {zs : List Zp} {kd N : Int} {Ad : Option Addr} {nd cd : Nat} {b : List UInt8} (h : Wk BB kw g w size lf dn dw zs kd N Ad nd cd b) (x : Int) : Wk BB kw g (w.setCell ⟨kw, 2, none⟩ (.int .i64 x)) size x dn dw zs kd N Ad nd cd b :=
  ⟨h.blk.set 2 _, h.zf.far (a := ⟨kw, 2, none⟩) (fun h => h.2 rfl) _, h.sl.farz (fun hn ad e hh => by have h1 := h.low hn ad e; have h2 := h.at_; have h3 : ad.block = kw := hh; omega) _, h.low, h.at_⟩
theorem Wk.down {BB kw g : Nat} {w : World} {size lf dn : Int} {dw : Bool} {zs : List Zp} {kd N : Int} {Ad : Option Addr} {nd cd : Nat} {b : List UInt8} (h : Wk BB kw g w size lf dn dw zs kd N Ad nd cd b) (x : Bool) : Wk BB kw g (w.setCell ⟨kw, 3, none⟩ (.bool x)) size lf dn x zs kd N Ad nd cd b :=
  ⟨h.blk.set 3 _, h.zf.far (a := ⟨kw, 3, none⟩) (fun h => h.2 rfl) _, h.sl.farz (fun hn ad e hh => by have h1 := h.low hn ad e; have h2 := h.at_; have h3 : ad.block = kw := hh; omega) _, h.low, h.at_⟩
theorem Wk.done {BB kw g : Nat} {w : World} {size lf dn : Int} {dw : Bool} {zs : List Zp} {kd N : Int} {Ad : Option Addr} {nd cd : Nat} {b : List UInt8} (h : Wk BB kw g w size lf dn dw zs kd N Ad nd cd b) (x : Int) : Wk BB kw g (w.setCell ⟨kw, 4, none⟩ (.int .i64 x)) size lf x dw zs kd N Ad nd cd b :=
  ⟨h.blk.set 4 _, h.zf.far (a := ⟨kw, 4, none⟩) (fun h => h.2 rfl) _, h.sl.farz (fun hn ad e hh => by have h1 := h.low hn ad e; have h2 := h.at_; have h3 : ad.block = kw := hh; omega) _, h.low, h.at_⟩

theorem find_no (kd : Int) (h1 : (kd == 1) = false) (h2 : (kd == 2) = false) (h3 : (kd == 3) = false) (h4 : (kd == 4) = false) (h5 : (kd == 5) = false) : Instr.findNow (.int .i64) (.int .i64 kd) cmdES.toList 0 = some none := by
  simp only [cmdES, Instr.findNow, Instr.sameNow, h1, h2, h3, h4, h5]
  rfl

set_option maxRecDepth 20000 in
set_option maxHeartbeats 4000000 in
theorem drun_any {BB kw g : Nat} {size lf dn : Int} {dw : Bool} {zs : List Zp} {kd N : Int} {Ad : Option Addr} {nd cd : Nat} {b : List UInt8} (w : World) (h : Wk BB kw g w size lf dn dw zs kd N Ad nd cd b) (hsm : Sm zs) (hnd : nd ≤ 10000) (hlf : lf < 9223372036854775808) :
    Calls Tryd.prog 45 #[.pointer (some ⟨kw, 0, none⟩)] w (WkPost BB kw w size (ruLf size lf dw zs) (ruDn size lf dn dw zs) (ruDw size lf dw zs) (ruZs size lf dw zs kd N b) kd N Ad nd cd b (ruEr size lf dw zs kd N b)) := by
  obtain ⟨Lf, hLf⟩ : ∃ x, x = ruLf size lf dw zs := ⟨_, rfl⟩
  obtain ⟨Dn, hDn⟩ : ∃ x, x = ruDn size lf dn dw zs := ⟨_, rfl⟩
  obtain ⟨Dw, hDw⟩ : ∃ x, x = ruDw size lf dw zs := ⟨_, rfl⟩
  obtain ⟨Zz, hZz⟩ : ∃ x, x = ruZs size lf dw zs kd N b := ⟨_, rfl⟩
  obtain ⟨Er, hEr⟩ : ∃ x, x = ruEr size lf dw zs kd N b := ⟨_, rfl⟩
  rw [← hLf, ← hDn, ← hDw, ← hZz, ← hEr]
  have hall : Hid (Lf = ruLf size lf dw zs ∧ Dn = ruDn size lf dn dw zs ∧ Dw = ruDw size lf dw zs ∧ Zz = ruZs size lf dw zs kd N b ∧ Er = ruEr size lf dw zs kd N b) := ⟨hLf, hDn, hDw, hZz, hEr⟩
  clear hLf hDn hDw hZz hEr
  have bb := Below.refl BB w
  have hat := h.at_
  have hlt := h.lt
  obtain ⟨p0, p1, p2, p3, p4, p5, p6, p7, f0, f1, f2, f3, f4, f5, f6, f7⟩ := h.blk.eight
  go_enter Tryd.func45, Tryd.ntmps45
  go_wp2_with fail
  clear p0 p1 p2 p3 p4 p5 p6 p7 f0 f1 f2 f3 f4 f5 f6 f7
  refine (dCheck_any size lf dn dw (some ⟨g, 0, none⟩) zs.length zs.length zs w (h.zf.toZs hsm.1)).mono ?_
  rintro e w1 ⟨rfl, b1⟩
  replace h := h.under b1
  replace bb := bb.trans (b1.mono (Nat.le_of_lt hlt))
  replace hlt := h.lt
  obtain ⟨p0, p1, p2, p3, p4, p5, p6, p7, f0, f1, f2, f3, f4, f5, f6, f7⟩ := h.blk.eight
  cases hc : devF size zs with
  | false =>
    have e0 : Hid (Lf = lf ∧ Dn = dn ∧ Dw = dw ∧ Zz = zs ∧ Er = 1) := by
      obtain ⟨h1, h2, h3, h4, h5⟩ := hall.out
      refine ⟨h1.trans ?_, h2.trans ?_, h3.trans ?_, h4.trans ?_, h5.trans ?_⟩ <;> simp [ruLf, ruDn, ruDw, ruZs, ruEr, goF, hc]
    go_wp2
    go_ret
    obtain ⟨rfl, rfl, rfl, rfl, rfl⟩ := e0.out
    exact h.post 1 bb
  | true =>
    cases hu : upF lf dw with
    | false =>
      have e0 : Hid (Lf = lf ∧ Dn = dn ∧ Dw = true ∧ Zz = zs ∧ Er = 40) := by
        obtain ⟨h1, h2, h3, h4, h5⟩ := hall.out
        refine ⟨h1.trans ?_, h2.trans ?_, h3.trans ?_, h4.trans ?_, h5.trans ?_⟩ <;> simp [ruLf, ruDn, ruDw, ruZs, ruEr, goF, hc, hu]
      have hh := h.down true
      have bb2 := bb.setCell (p := ⟨kw, 3, none⟩) hat (.bool true)
      cases dw with
      | true =>
        go_wp2
        go_ret
        obtain ⟨rfl, rfl, rfl, rfl, rfl⟩ := e0.out
        exact hh.post 40 bb2
      | false =>
        obtain rfl : lf = 0 := by simpa [upF] using hu
        go_wp2
        go_ret
        obtain ⟨rfl, rfl, rfl, rfl, rfl⟩ := e0.out
        exact hh.post 40 bb2
    | true =>
      obtain ⟨rfl, hl0⟩ : dw = false ∧ lf ≠ 0 := by simpa [upF] using hu
      have hw1 : 0 < lf → wrap64 (lf - 1) = lf - 1 := fun h => wrap64_small (by omega) (by omega)
      by_cases hp : 0 < lf
      · have hw1 := hw1 hp
        have e9 : Hid (Lf = lf - 1 ∧ Dn = wrap64 (dn + 1) ∧ Dw = false) := by
          obtain ⟨h1, h2, h3, h4, h5⟩ := hall.out
          refine ⟨h1.trans ?_, h2.trans ?_, h3.trans ?_⟩ <;> simp [ruLf, ruDn, ruDw, goF, hc, hu, hp]
        obtain ⟨dn1, hdn1⟩ : ∃ x, wrap64 (dn + 1) = x := ⟨_, rfl⟩
        rw [hdn1] at e9
        go_wp2_with fail
        have h3 := (h.left (lf - 1)).done dn1
        have bb3 := (bb.setCell (p := ⟨kw, 2, none⟩) hat (.int .i64 (lf - 1))).setCell (p := ⟨kw, 4, none⟩) hat (.int .i64 dn1)
        clear p0 p1 p2 p3 p4 p5 p6 p7 f0 f1 f2 f3 f4 f5 f6 f7
        generalize (w1.setCell ⟨kw, 2, none⟩ (.int .i64 (lf - 1))).setCell ⟨kw, 4, none⟩ (.int .i64 dn1) = w3 at *
        clear h bb hw1 hdn1
        by_cases hk1 : kd = 1
        · subst hk1
          have e0 : Hid (Zz = chgZs zs N (apH size (openF zs) b) (apE size (openF zs) b) ∧ Er = chgEr zs N (apE size (openF zs) b)) := by
            obtain ⟨h1, h2, h3, h4, h5⟩ := hall.out
            refine ⟨h4.trans ?_, h5.trans ?_⟩ <;> simp [ruZs, ruEr, goF, hc, hu, cmdZs, cmdEr]
          refine wp_region_held_drew (S := fun w' => Below w3.heap.size w3 w') (by kernel_rfl) (Below.refl _ _).drew (fun hHeld => ?_)
          try dsimp only at hHeld
          have bd : Below w3.heap.size w3 w3.drew := (Below.refl w3.heap.size w3).drew
          have h4 := h3.under bd
          generalize w3.drew = wd at *
          try simp only [Act.put, List.setIfInBounds_toArray, List.set_cons_zero, List.set_cons_succ]
          refine wpAnyH_take (i := 1) (v := ?_) (by simp only [List.getElem?_toArray, List.getElem?_cons_succ, List.getElem?_cons_zero]; rfl) (by kernel_rfl) (by kernel_rfl) (by kernel_rfl) (by intro _ _ _ h; exact h) (Or.inl ⟨by rfl, ?_⟩) hHeld ?_
          rotate_left 1
          · intro wq hSw
            try dsimp only at hSw
            go_simp
            try (with_reducible rfl)
          try simp only [Act.put, List.setIfInBounds_toArray, List.set_cons_zero, List.set_cons_succ]
          refine wpAnyH_take (i := 2) (v := ?_) (by simp only [List.getElem?_toArray, List.getElem?_cons_succ, List.getElem?_cons_zero]; rfl) (by kernel_rfl) (by kernel_rfl) (by kernel_rfl) (by intro _ _ _ h; exact h) (Or.inl ⟨by rfl, ?_⟩) hHeld ?_
          rotate_left 1
          · intro wq hSw
            try dsimp only at hSw
            go_simp
            try (with_reducible rfl)
          try simp only [Act.put, List.setIfInBounds_toArray, List.set_cons_zero, List.set_cons_succ]
          refine wpAnyH_take (i := 3) (v := ?_) (by simp only [List.getElem?_toArray, List.getElem?_cons_succ, List.getElem?_cons_zero]; rfl) (by kernel_rfl) (by kernel_rfl) (by kernel_rfl) (by intro _ _ _ h; exact h) (Or.inl ⟨by rfl, ?_⟩) hHeld ?_
          rotate_left 1
          · intro wq hSw
            try dsimp only at hSw
            go_simp
            try (with_reducible rfl)
          try simp only [Act.put, List.setIfInBounds_toArray, List.set_cons_zero, List.set_cons_succ]
          refine wpAnyH_take (i := 4) (v := ?_) (by simp only [List.getElem?_toArray, List.getElem?_cons_succ, List.getElem?_cons_zero]; rfl) (by kernel_rfl) (by kernel_rfl) (by kernel_rfl) (by intro _ _ _ h; exact h) (Or.inl ⟨by rfl, ?_⟩) hHeld ?_
          rotate_left 1
          · intro wq hSw
            try dsimp only at hSw
            go_simp
            try (with_reducible rfl)
          try simp only [Act.put, List.setIfInBounds_toArray, List.set_cons_zero, List.set_cons_succ]
          refine wpAnyH_take (i := 5) (v := ?_) (by simp only [List.getElem?_toArray, List.getElem?_cons_succ, List.getElem?_cons_zero]; rfl) (by kernel_rfl) (by kernel_rfl) (by kernel_rfl) (by intro _ _ _ h; exact h) (Or.inl ⟨by rfl, ?_⟩) hHeld ?_
          rotate_left 1
          · intro wq hSw
            try dsimp only at hSw
            obtain ⟨x0, x1, x2, x3, x4, x5, x6, x7, _⟩ := (h3.blk.under hSw).eight
            go_simp
            try (with_reducible rfl)
          try simp only [Act.put, List.setIfInBounds_toArray, List.set_cons_zero, List.set_cons_succ]
          refine wpAnyH_ready (rs := [0]) (by kernel_rfl) (by simp) ?_
          refine AllReadyH.cons (by simp only [List.getElem?_toArray, List.getElem?_cons_zero]; rfl) (fun K hK => ?_) AllReadyH.nil
          have hC := dcommands_any wd
          go_simp
          refine hC.mono ?_
          clear hC
          rintro e w4 ⟨rfl, hw4⟩
          have b4 : Below wd.heap.size wd w4 := by rw [hw4]; exact (Below.refl _ _).alloc (Nat.le_refl _) _
          have hm4 : w4.heap[wd.heap.size]? = some (.map cmdES 5) := by rw [hw4]; exact (MapKept.heap_alloc wd _).1
          clear hw4
          go_wp2_with fail
          refine hK.out _ _ (bd.trans (b4.mono bd.size)) (fun _ => wpAnyH_stronger (S' := fun w' => Below w4.heap.size w4 w') (fun w' h => Below.trans (bd.trans (b4.mono bd.size)) (h.mono (Nat.le_trans bd.size b4.size))) _ _ _ _ ?_)
          clear hK K hHeld
          have hHeld := Below.refl w4.heap.size w4
          have h5 := h4.under b4
          try simp only [Act.put, List.setIfInBounds_toArray, List.set_cons_zero, List.set_cons_succ]
          refine wpAnyH_take (i := 6) (v := ?_) (by simp only [List.getElem?_toArray, List.getElem?_cons_succ, List.getElem?_cons_zero]; rfl) (by kernel_rfl) (by kernel_rfl) (by kernel_rfl) (by intro _ _ _ h; exact h) (Or.inl ⟨by rfl, ?_⟩) hHeld ?_
          rotate_left 1
          · intro wq hSw
            try dsimp only at hSw
            have hmq := (hSw.block _ (Array.getElem?_eq_some_iff.1 hm4).1).trans hm4
            have hlk := run_lookm wq _ cmdES 5 1 hmq 0 (.func (.func 73) #[] #[]) rfl
            go_simp
            try (with_reducible rfl)
          try simp only [Act.put, List.setIfInBounds_toArray, List.set_cons_zero, List.set_cons_succ]
          refine wpAnyH_take (i := 7) (v := ?_) (by simp only [List.getElem?_toArray, List.getElem?_cons_succ, List.getElem?_cons_zero]; rfl) (by kernel_rfl) (by kernel_rfl) (by kernel_rfl) (by intro _ _ _ h; exact h) (Or.inl ⟨by rfl, ?_⟩) hHeld ?_
          rotate_left 1
          · intro wq hSw
            try dsimp only at hSw
            go_simp
            try (with_reducible rfl)
          try simp only [Act.put, List.setIfInBounds_toArray, List.set_cons_zero, List.set_cons_succ]
          refine wpAnyH_take (i := 8) (v := ?_) (by simp only [List.getElem?_toArray, List.getElem?_cons_succ, List.getElem?_cons_zero]; rfl) (by kernel_rfl) (by kernel_rfl) (by kernel_rfl) (by intro _ _ _ h; exact h) (Or.inl ⟨by rfl, ?_⟩) hHeld ?_
          rotate_left 1
          · intro wq hSw
            try dsimp only at hSw
            go_simp
            try (with_reducible rfl)
          try simp only [Act.put, List.setIfInBounds_toArray, List.set_cons_zero, List.set_cons_succ]
          refine wpAnyH_take (i := 9) (v := ?_) (by simp only [List.getElem?_toArray, List.getElem?_cons_succ, List.getElem?_cons_zero]; rfl) (by kernel_rfl) (by kernel_rfl) (by kernel_rfl) (by intro _ _ _ h; exact h) (Or.inl ⟨by rfl, ?_⟩) hHeld ?_
          rotate_left 1
          · intro wq hSw
            try dsimp only at hSw
            go_simp
            try (with_reducible rfl)
          try simp only [Act.put, List.setIfInBounds_toArray, List.set_cons_zero, List.set_cons_succ]
          refine wpAnyH_take (i := 10) (v := ?_) (by simp only [List.getElem?_toArray, List.getElem?_cons_succ, List.getElem?_cons_zero]; rfl) (by kernel_rfl) (by kernel_rfl) (by kernel_rfl) (by intro _ _ _ h; exact h) (Or.inl ⟨by rfl, ?_⟩) hHeld ?_
          rotate_left 1
          · intro wq hSw
            try dsimp only at hSw
            go_simp
            try (with_reducible rfl)
          try simp only [Act.put, List.setIfInBounds_toArray, List.set_cons_zero, List.set_cons_succ]
          refine wpAnyH_take (i := 11) (v := ?_) (by simp only [List.getElem?_toArray, List.getElem?_cons_succ, List.getElem?_cons_zero]; rfl) (by kernel_rfl) (by kernel_rfl) (by kernel_rfl) (by intro _ _ _ h; exact h) (Or.inl ⟨by rfl, ?_⟩) hHeld ?_
          rotate_left 1
          · intro wq hSw
            try dsimp only at hSw
            go_simp
            try (with_reducible rfl)
          try simp only [Act.put, List.setIfInBounds_toArray, List.set_cons_zero, List.set_cons_succ]
          refine wpAnyH_done (by kernel_rfl) ?_ _
          have bq := bb3.trans ((bd.trans (b4.mono bd.size)).mono (Nat.le_of_lt h3.lt))
          clear hm4 hHeld
          go_wp2_with fail
          refine (dappend_any w4 h5 hsm hnd).mono ?_
          rintro e w6 ⟨rfl, h6, b6⟩
          go_wp2
          go_ret
          obtain ⟨e1, e2⟩ := e0.out
          obtain ⟨e3, e4, e5⟩ := e9.out
          rw [e1, e2, e3, e4, e5]
          exact ⟨rfl, h6, bq.trans b6⟩
        by_cases hk2 : kd = 2
        · subst hk2
          have e0 : Hid (Zz = chgZs zs N rsH rsE ∧ Er = chgEr zs N rsE) := by
            obtain ⟨h1, h2, h3, h4, h5⟩ := hall.out
            refine ⟨h4.trans ?_, h5.trans ?_⟩ <;> simp [ruZs, ruEr, goF, hc, hu, cmdZs, cmdEr]
          refine wp_region_held_drew (S := fun w' => Below w3.heap.size w3 w') (by kernel_rfl) (Below.refl _ _).drew (fun hHeld => ?_)
          try dsimp only at hHeld
          have bd : Below w3.heap.size w3 w3.drew := (Below.refl w3.heap.size w3).drew
          have h4 := h3.under bd
          generalize w3.drew = wd at *
          try simp only [Act.put, List.setIfInBounds_toArray, List.set_cons_zero, List.set_cons_succ]
          refine wpAnyH_take (i := 1) (v := ?_) (by simp only [List.getElem?_toArray, List.getElem?_cons_succ, List.getElem?_cons_zero]; rfl) (by kernel_rfl) (by kernel_rfl) (by kernel_rfl) (by intro _ _ _ h; exact h) (Or.inl ⟨by rfl, ?_⟩) hHeld ?_
          rotate_left 1
          · intro wq hSw
            try dsimp only at hSw
            go_simp
            try (with_reducible rfl)
          try simp only [Act.put, List.setIfInBounds_toArray, List.set_cons_zero, List.set_cons_succ]
          refine wpAnyH_take (i := 2) (v := ?_) (by simp only [List.getElem?_toArray, List.getElem?_cons_succ, List.getElem?_cons_zero]; rfl) (by kernel_rfl) (by kernel_rfl) (by kernel_rfl) (by intro _ _ _ h; exact h) (Or.inl ⟨by rfl, ?_⟩) hHeld ?_
          rotate_left 1
          · intro wq hSw
            try dsimp only at hSw
            go_simp
            try (with_reducible rfl)
          try simp only [Act.put, List.setIfInBounds_toArray, List.set_cons_zero, List.set_cons_succ]
          refine wpAnyH_take (i := 3) (v := ?_) (by simp only [List.getElem?_toArray, List.getElem?_cons_succ, List.getElem?_cons_zero]; rfl) (by kernel_rfl) (by kernel_rfl) (by kernel_rfl) (by intro _ _ _ h; exact h) (Or.inl ⟨by rfl, ?_⟩) hHeld ?_
          rotate_left 1
          · intro wq hSw
            try dsimp only at hSw
            go_simp
            try (with_reducible rfl)
          try simp only [Act.put, List.setIfInBounds_toArray, List.set_cons_zero, List.set_cons_succ]
          refine wpAnyH_take (i := 4) (v := ?_) (by simp only [List.getElem?_toArray, List.getElem?_cons_succ, List.getElem?_cons_zero]; rfl) (by kernel_rfl) (by kernel_rfl) (by kernel_rfl) (by intro _ _ _ h; exact h) (Or.inl ⟨by rfl, ?_⟩) hHeld ?_
          rotate_left 1
          · intro wq hSw
            try dsimp only at hSw
            go_simp
            try (with_reducible rfl)
          try simp only [Act.put, List.setIfInBounds_toArray, List.set_cons_zero, List.set_cons_succ]
          refine wpAnyH_take (i := 5) (v := ?_) (by simp only [List.getElem?_toArray, List.getElem?_cons_succ, List.getElem?_cons_zero]; rfl) (by kernel_rfl) (by kernel_rfl) (by kernel_rfl) (by intro _ _ _ h; exact h) (Or.inl ⟨by rfl, ?_⟩) hHeld ?_
          rotate_left 1
          · intro wq hSw
            try dsimp only at hSw
            obtain ⟨x0, x1, x2, x3, x4, x5, x6, x7, _⟩ := (h3.blk.under hSw).eight
            go_simp
            try (with_reducible rfl)
          try simp only [Act.put, List.setIfInBounds_toArray, List.set_cons_zero, List.set_cons_succ]
          refine wpAnyH_ready (rs := [0]) (by kernel_rfl) (by simp) ?_
          refine AllReadyH.cons (by simp only [List.getElem?_toArray, List.getElem?_cons_zero]; rfl) (fun K hK => ?_) AllReadyH.nil
          have hC := dcommands_any wd
          go_simp
          refine hC.mono ?_
          clear hC
          rintro e w4 ⟨rfl, hw4⟩
          have b4 : Below wd.heap.size wd w4 := by rw [hw4]; exact (Below.refl _ _).alloc (Nat.le_refl _) _
          have hm4 : w4.heap[wd.heap.size]? = some (.map cmdES 5) := by rw [hw4]; exact (MapKept.heap_alloc wd _).1
          clear hw4
          go_wp2_with fail
          refine hK.out _ _ (bd.trans (b4.mono bd.size)) (fun _ => wpAnyH_stronger (S' := fun w' => Below w4.heap.size w4 w') (fun w' h => Below.trans (bd.trans (b4.mono bd.size)) (h.mono (Nat.le_trans bd.size b4.size))) _ _ _ _ ?_)
          clear hK K hHeld
          have hHeld := Below.refl w4.heap.size w4
          have h5 := h4.under b4
          try simp only [Act.put, List.setIfInBounds_toArray, List.set_cons_zero, List.set_cons_succ]
          refine wpAnyH_take (i := 6) (v := ?_) (by simp only [List.getElem?_toArray, List.getElem?_cons_succ, List.getElem?_cons_zero]; rfl) (by kernel_rfl) (by kernel_rfl) (by kernel_rfl) (by intro _ _ _ h; exact h) (Or.inl ⟨by rfl, ?_⟩) hHeld ?_
          rotate_left 1
          · intro wq hSw
            try dsimp only at hSw
            have hmq := (hSw.block _ (Array.getElem?_eq_some_iff.1 hm4).1).trans hm4
            have hlk := run_lookm wq _ cmdES 5 2 hmq 1 (.func (.func 74) #[] #[]) rfl
            go_simp
            try (with_reducible rfl)
          try simp only [Act.put, List.setIfInBounds_toArray, List.set_cons_zero, List.set_cons_succ]
          refine wpAnyH_take (i := 7) (v := ?_) (by simp only [List.getElem?_toArray, List.getElem?_cons_succ, List.getElem?_cons_zero]; rfl) (by kernel_rfl) (by kernel_rfl) (by kernel_rfl) (by intro _ _ _ h; exact h) (Or.inl ⟨by rfl, ?_⟩) hHeld ?_
          rotate_left 1
          · intro wq hSw
            try dsimp only at hSw
            go_simp
            try (with_reducible rfl)
          try simp only [Act.put, List.setIfInBounds_toArray, List.set_cons_zero, List.set_cons_succ]
          refine wpAnyH_take (i := 8) (v := ?_) (by simp only [List.getElem?_toArray, List.getElem?_cons_succ, List.getElem?_cons_zero]; rfl) (by kernel_rfl) (by kernel_rfl) (by kernel_rfl) (by intro _ _ _ h; exact h) (Or.inl ⟨by rfl, ?_⟩) hHeld ?_
          rotate_left 1
          · intro wq hSw
            try dsimp only at hSw
            go_simp
            try (with_reducible rfl)
          try simp only [Act.put, List.setIfInBounds_toArray, List.set_cons_zero, List.set_cons_succ]
          refine wpAnyH_take (i := 9) (v := ?_) (by simp only [List.getElem?_toArray, List.getElem?_cons_succ, List.getElem?_cons_zero]; rfl) (by kernel_rfl) (by kernel_rfl) (by kernel_rfl) (by intro _ _ _ h; exact h) (Or.inl ⟨by rfl, ?_⟩) hHeld ?_
          rotate_left 1
          · intro wq hSw
            try dsimp only at hSw
            go_simp
            try (with_reducible rfl)
          try simp only [Act.put, List.setIfInBounds_toArray, List.set_cons_zero, List.set_cons_succ]
          refine wpAnyH_take (i := 10) (v := ?_) (by simp only [List.getElem?_toArray, List.getElem?_cons_succ, List.getElem?_cons_zero]; rfl) (by kernel_rfl) (by kernel_rfl) (by kernel_rfl) (by intro _ _ _ h; exact h) (Or.inl ⟨by rfl, ?_⟩) hHeld ?_
          rotate_left 1
          · intro wq hSw
            try dsimp only at hSw
            go_simp
            try (with_reducible rfl)
          try simp only [Act.put, List.setIfInBounds_toArray, List.set_cons_zero, List.set_cons_succ]
          refine wpAnyH_take (i := 11) (v := ?_) (by simp only [List.getElem?_toArray, List.getElem?_cons_succ, List.getElem?_cons_zero]; rfl) (by kernel_rfl) (by kernel_rfl) (by kernel_rfl) (by intro _ _ _ h; exact h) (Or.inl ⟨by rfl, ?_⟩) hHeld ?_
          rotate_left 1
          · intro wq hSw
            try dsimp only at hSw
            go_simp
            try (with_reducible rfl)
          try simp only [Act.put, List.setIfInBounds_toArray, List.set_cons_zero, List.set_cons_succ]
          refine wpAnyH_done (by kernel_rfl) ?_ _
          have bq := bb3.trans ((bd.trans (b4.mono bd.size)).mono (Nat.le_of_lt h3.lt))
          clear hm4 hHeld
          go_wp2_with fail
          refine (dreset_any w4 h5 hsm).mono ?_
          rintro e w6 ⟨rfl, h6, b6⟩
          go_wp2
          go_ret
          obtain ⟨e1, e2⟩ := e0.out
          obtain ⟨e3, e4, e5⟩ := e9.out
          rw [e1, e2, e3, e4, e5]
          exact ⟨rfl, h6, bq.trans b6⟩
        by_cases hk3 : kd = 3
        · subst hk3
          have e0 : Hid (Zz = chgZs zs N fiH fiE ∧ Er = chgEr zs N fiE) := by
            obtain ⟨h1, h2, h3, h4, h5⟩ := hall.out
            refine ⟨h4.trans ?_, h5.trans ?_⟩ <;> simp [ruZs, ruEr, goF, hc, hu, cmdZs, cmdEr]
          refine wp_region_held_drew (S := fun w' => Below w3.heap.size w3 w') (by kernel_rfl) (Below.refl _ _).drew (fun hHeld => ?_)
          try dsimp only at hHeld
          have bd : Below w3.heap.size w3 w3.drew := (Below.refl w3.heap.size w3).drew
          have h4 := h3.under bd
          generalize w3.drew = wd at *
          try simp only [Act.put, List.setIfInBounds_toArray, List.set_cons_zero, List.set_cons_succ]
          refine wpAnyH_take (i := 1) (v := ?_) (by simp only [List.getElem?_toArray, List.getElem?_cons_succ, List.getElem?_cons_zero]; rfl) (by kernel_rfl) (by kernel_rfl) (by kernel_rfl) (by intro _ _ _ h; exact h) (Or.inl ⟨by rfl, ?_⟩) hHeld ?_
          rotate_left 1
          · intro wq hSw
            try dsimp only at hSw
            go_simp
            try (with_reducible rfl)
          try simp only [Act.put, List.setIfInBounds_toArray, List.set_cons_zero, List.set_cons_succ]
          refine wpAnyH_take (i := 2) (v := ?_) (by simp only [List.getElem?_toArray, List.getElem?_cons_succ, List.getElem?_cons_zero]; rfl) (by kernel_rfl) (by kernel_rfl) (by kernel_rfl) (by intro _ _ _ h; exact h) (Or.inl ⟨by rfl, ?_⟩) hHeld ?_
          rotate_left 1
          · intro wq hSw
            try dsimp only at hSw
            go_simp
            try (with_reducible rfl)
          try simp only [Act.put, List.setIfInBounds_toArray, List.set_cons_zero, List.set_cons_succ]
          refine wpAnyH_take (i := 3) (v := ?_) (by simp only [List.getElem?_toArray, List.getElem?_cons_succ, List.getElem?_cons_zero]; rfl) (by kernel_rfl) (by kernel_rfl) (by kernel_rfl) (by intro _ _ _ h; exact h) (Or.inl ⟨by rfl, ?_⟩) hHeld ?_
          rotate_left 1
          · intro wq hSw
            try dsimp only at hSw
            go_simp
            try (with_reducible rfl)
          try simp only [Act.put, List.setIfInBounds_toArray, List.set_cons_zero, List.set_cons_succ]
          refine wpAnyH_take (i := 4) (v := ?_) (by simp only [List.getElem?_toArray, List.getElem?_cons_succ, List.getElem?_cons_zero]; rfl) (by kernel_rfl) (by kernel_rfl) (by kernel_rfl) (by intro _ _ _ h; exact h) (Or.inl ⟨by rfl, ?_⟩) hHeld ?_
          rotate_left 1
          · intro wq hSw
            try dsimp only at hSw
            go_simp
            try (with_reducible rfl)
          try simp only [Act.put, List.setIfInBounds_toArray, List.set_cons_zero, List.set_cons_succ]
          refine wpAnyH_take (i := 5) (v := ?_) (by simp only [List.getElem?_toArray, List.getElem?_cons_succ, List.getElem?_cons_zero]; rfl) (by kernel_rfl) (by kernel_rfl) (by kernel_rfl) (by intro _ _ _ h; exact h) (Or.inl ⟨by rfl, ?_⟩) hHeld ?_
          rotate_left 1
          · intro wq hSw
            try dsimp only at hSw
            obtain ⟨x0, x1, x2, x3, x4, x5, x6, x7, _⟩ := (h3.blk.under hSw).eight
            go_simp
            try (with_reducible rfl)
          try simp only [Act.put, List.setIfInBounds_toArray, List.set_cons_zero, List.set_cons_succ]
          refine wpAnyH_ready (rs := [0]) (by kernel_rfl) (by simp) ?_
          refine AllReadyH.cons (by simp only [List.getElem?_toArray, List.getElem?_cons_zero]; rfl) (fun K hK => ?_) AllReadyH.nil
          have hC := dcommands_any wd
          go_simp
          refine hC.mono ?_
          clear hC
          rintro e w4 ⟨rfl, hw4⟩
          have b4 : Below wd.heap.size wd w4 := by rw [hw4]; exact (Below.refl _ _).alloc (Nat.le_refl _) _
          have hm4 : w4.heap[wd.heap.size]? = some (.map cmdES 5) := by rw [hw4]; exact (MapKept.heap_alloc wd _).1
          clear hw4
          go_wp2_with fail
          refine hK.out _ _ (bd.trans (b4.mono bd.size)) (fun _ => wpAnyH_stronger (S' := fun w' => Below w4.heap.size w4 w') (fun w' h => Below.trans (bd.trans (b4.mono bd.size)) (h.mono (Nat.le_trans bd.size b4.size))) _ _ _ _ ?_)
          clear hK K hHeld
          have hHeld := Below.refl w4.heap.size w4
          have h5 := h4.under b4
          try simp only [Act.put, List.setIfInBounds_toArray, List.set_cons_zero, List.set_cons_succ]
          refine wpAnyH_take (i := 6) (v := ?_) (by simp only [List.getElem?_toArray, List.getElem?_cons_succ, List.getElem?_cons_zero]; rfl) (by kernel_rfl) (by kernel_rfl) (by kernel_rfl) (by intro _ _ _ h; exact h) (Or.inl ⟨by rfl, ?_⟩) hHeld ?_
          rotate_left 1
          · intro wq hSw
            try dsimp only at hSw
            have hmq := (hSw.block _ (Array.getElem?_eq_some_iff.1 hm4).1).trans hm4
            have hlk := run_lookm wq _ cmdES 5 3 hmq 2 (.func (.func 75) #[] #[]) rfl
            go_simp
            try (with_reducible rfl)
          try simp only [Act.put, List.setIfInBounds_toArray, List.set_cons_zero, List.set_cons_succ]
          refine wpAnyH_take (i := 7) (v := ?_) (by simp only [List.getElem?_toArray, List.getElem?_cons_succ, List.getElem?_cons_zero]; rfl) (by kernel_rfl) (by kernel_rfl) (by kernel_rfl) (by intro _ _ _ h; exact h) (Or.inl ⟨by rfl, ?_⟩) hHeld ?_
          rotate_left 1
          · intro wq hSw
            try dsimp only at hSw
            go_simp
            try (with_reducible rfl)
          try simp only [Act.put, List.setIfInBounds_toArray, List.set_cons_zero, List.set_cons_succ]
          refine wpAnyH_take (i := 8) (v := ?_) (by simp only [List.getElem?_toArray, List.getElem?_cons_succ, List.getElem?_cons_zero]; rfl) (by kernel_rfl) (by kernel_rfl) (by kernel_rfl) (by intro _ _ _ h; exact h) (Or.inl ⟨by rfl, ?_⟩) hHeld ?_
          rotate_left 1
          · intro wq hSw
            try dsimp only at hSw
            go_simp
            try (with_reducible rfl)
          try simp only [Act.put, List.setIfInBounds_toArray, List.set_cons_zero, List.set_cons_succ]
          refine wpAnyH_take (i := 9) (v := ?_) (by simp only [List.getElem?_toArray, List.getElem?_cons_succ, List.getElem?_cons_zero]; rfl) (by kernel_rfl) (by kernel_rfl) (by kernel_rfl) (by intro _ _ _ h; exact h) (Or.inl ⟨by rfl, ?_⟩) hHeld ?_
          rotate_left 1
          · intro wq hSw
            try dsimp only at hSw
            go_simp
            try (with_reducible rfl)
          try simp only [Act.put, List.setIfInBounds_toArray, List.set_cons_zero, List.set_cons_succ]
          refine wpAnyH_take (i := 10) (v := ?_) (by simp only [List.getElem?_toArray, List.getElem?_cons_succ, List.getElem?_cons_zero]; rfl) (by kernel_rfl) (by kernel_rfl) (by kernel_rfl) (by intro _ _ _ h; exact h) (Or.inl ⟨by rfl, ?_⟩) hHeld ?_
          rotate_left 1
          · intro wq hSw
            try dsimp only at hSw
            go_simp
            try (with_reducible rfl)
          try simp only [Act.put, List.setIfInBounds_toArray, List.set_cons_zero, List.set_cons_succ]
          refine wpAnyH_take (i := 11) (v := ?_) (by simp only [List.getElem?_toArray, List.getElem?_cons_succ, List.getElem?_cons_zero]; rfl) (by kernel_rfl) (by kernel_rfl) (by kernel_rfl) (by intro _ _ _ h; exact h) (Or.inl ⟨by rfl, ?_⟩) hHeld ?_
          rotate_left 1
          · intro wq hSw
            try dsimp only at hSw
            go_simp
            try (with_reducible rfl)
          try simp only [Act.put, List.setIfInBounds_toArray, List.set_cons_zero, List.set_cons_succ]
          refine wpAnyH_done (by kernel_rfl) ?_ _
          have bq := bb3.trans ((bd.trans (b4.mono bd.size)).mono (Nat.le_of_lt h3.lt))
          clear hm4 hHeld
          go_wp2_with fail
          refine (dfinish_any w4 h5 hsm).mono ?_
          rintro e w6 ⟨rfl, h6, b6⟩
          go_wp2
          go_ret
          obtain ⟨e1, e2⟩ := e0.out
          obtain ⟨e3, e4, e5⟩ := e9.out
          rw [e1, e2, e3, e4, e5]
          exact ⟨rfl, h6, bq.trans b6⟩
        by_cases hk4 : kd = 4
        · subst hk4
          have e0 : Hid (Zz = chgZs zs N clH clE ∧ Er = chgEr zs N clE) := by
            obtain ⟨h1, h2, h3, h4, h5⟩ := hall.out
            refine ⟨h4.trans ?_, h5.trans ?_⟩ <;> simp [ruZs, ruEr, goF, hc, hu, cmdZs, cmdEr]
          refine wp_region_held_drew (S := fun w' => Below w3.heap.size w3 w') (by kernel_rfl) (Below.refl _ _).drew (fun hHeld => ?_)
          try dsimp only at hHeld
          have bd : Below w3.heap.size w3 w3.drew := (Below.refl w3.heap.size w3).drew
          have h4 := h3.under bd
          generalize w3.drew = wd at *
          try simp only [Act.put, List.setIfInBounds_toArray, List.set_cons_zero, List.set_cons_succ]
          refine wpAnyH_take (i := 1) (v := ?_) (by simp only [List.getElem?_toArray, List.getElem?_cons_succ, List.getElem?_cons_zero]; rfl) (by kernel_rfl) (by kernel_rfl) (by kernel_rfl) (by intro _ _ _ h; exact h) (Or.inl ⟨by rfl, ?_⟩) hHeld ?_
          rotate_left 1
          · intro wq hSw
            try dsimp only at hSw
            go_simp
            try (with_reducible rfl)
          try simp only [Act.put, List.setIfInBounds_toArray, List.set_cons_zero, List.set_cons_succ]
          refine wpAnyH_take (i := 2) (v := ?_) (by simp only [List.getElem?_toArray, List.getElem?_cons_succ, List.getElem?_cons_zero]; rfl) (by kernel_rfl) (by kernel_rfl) (by kernel_rfl) (by intro _ _ _ h; exact h) (Or.inl ⟨by rfl, ?_⟩) hHeld ?_
          rotate_left 1
          · intro wq hSw
            try dsimp only at hSw
            go_simp
            try (with_reducible rfl)
          try simp only [Act.put, List.setIfInBounds_toArray, List.set_cons_zero, List.set_cons_succ]
          refine wpAnyH_take (i := 3) (v := ?_) (by simp only [List.getElem?_toArray, List.getElem?_cons_succ, List.getElem?_cons_zero]; rfl) (by kernel_rfl) (by kernel_rfl) (by kernel_rfl) (by intro _ _ _ h; exact h) (Or.inl ⟨by rfl, ?_⟩) hHeld ?_
          rotate_left 1
          · intro wq hSw
            try dsimp only at hSw
            go_simp
            try (with_reducible rfl)
          try simp only [Act.put, List.setIfInBounds_toArray, List.set_cons_zero, List.set_cons_succ]
          refine wpAnyH_take (i := 4) (v := ?_) (by simp only [List.getElem?_toArray, List.getElem?_cons_succ, List.getElem?_cons_zero]; rfl) (by kernel_rfl) (by kernel_rfl) (by kernel_rfl) (by intro _ _ _ h; exact h) (Or.inl ⟨by rfl, ?_⟩) hHeld ?_
          rotate_left 1
          · intro wq hSw
            try dsimp only at hSw
            go_simp
            try (with_reducible rfl)
          try simp only [Act.put, List.setIfInBounds_toArray, List.set_cons_zero, List.set_cons_succ]
          refine wpAnyH_take (i := 5) (v := ?_) (by simp only [List.getElem?_toArray, List.getElem?_cons_succ, List.getElem?_cons_zero]; rfl) (by kernel_rfl) (by kernel_rfl) (by kernel_rfl) (by intro _ _ _ h; exact h) (Or.inl ⟨by rfl, ?_⟩) hHeld ?_
          rotate_left 1
          · intro wq hSw
            try dsimp only at hSw
            obtain ⟨x0, x1, x2, x3, x4, x5, x6, x7, _⟩ := (h3.blk.under hSw).eight
            go_simp
            try (with_reducible rfl)
          try simp only [Act.put, List.setIfInBounds_toArray, List.set_cons_zero, List.set_cons_succ]
          refine wpAnyH_ready (rs := [0]) (by kernel_rfl) (by simp) ?_
          refine AllReadyH.cons (by simp only [List.getElem?_toArray, List.getElem?_cons_zero]; rfl) (fun K hK => ?_) AllReadyH.nil
          have hC := dcommands_any wd
          go_simp
          refine hC.mono ?_
          clear hC
          rintro e w4 ⟨rfl, hw4⟩
          have b4 : Below wd.heap.size wd w4 := by rw [hw4]; exact (Below.refl _ _).alloc (Nat.le_refl _) _
          have hm4 : w4.heap[wd.heap.size]? = some (.map cmdES 5) := by rw [hw4]; exact (MapKept.heap_alloc wd _).1
          clear hw4
          go_wp2_with fail
          refine hK.out _ _ (bd.trans (b4.mono bd.size)) (fun _ => wpAnyH_stronger (S' := fun w' => Below w4.heap.size w4 w') (fun w' h => Below.trans (bd.trans (b4.mono bd.size)) (h.mono (Nat.le_trans bd.size b4.size))) _ _ _ _ ?_)
          clear hK K hHeld
          have hHeld := Below.refl w4.heap.size w4
          have h5 := h4.under b4
          try simp only [Act.put, List.setIfInBounds_toArray, List.set_cons_zero, List.set_cons_succ]
          refine wpAnyH_take (i := 6) (v := ?_) (by simp only [List.getElem?_toArray, List.getElem?_cons_succ, List.getElem?_cons_zero]; rfl) (by kernel_rfl) (by kernel_rfl) (by kernel_rfl) (by intro _ _ _ h; exact h) (Or.inl ⟨by rfl, ?_⟩) hHeld ?_
          rotate_left 1
          · intro wq hSw
            try dsimp only at hSw
            have hmq := (hSw.block _ (Array.getElem?_eq_some_iff.1 hm4).1).trans hm4
            have hlk := run_lookm wq _ cmdES 5 4 hmq 3 (.func (.func 76) #[] #[]) rfl
            go_simp
            try (with_reducible rfl)
          try simp only [Act.put, List.setIfInBounds_toArray, List.set_cons_zero, List.set_cons_succ]
          refine wpAnyH_take (i := 7) (v := ?_) (by simp only [List.getElem?_toArray, List.getElem?_cons_succ, List.getElem?_cons_zero]; rfl) (by kernel_rfl) (by kernel_rfl) (by kernel_rfl) (by intro _ _ _ h; exact h) (Or.inl ⟨by rfl, ?_⟩) hHeld ?_
          rotate_left 1
          · intro wq hSw
            try dsimp only at hSw
            go_simp
            try (with_reducible rfl)
          try simp only [Act.put, List.setIfInBounds_toArray, List.set_cons_zero, List.set_cons_succ]
          refine wpAnyH_take (i := 8) (v := ?_) (by simp only [List.getElem?_toArray, List.getElem?_cons_succ, List.getElem?_cons_zero]; rfl) (by kernel_rfl) (by kernel_rfl) (by kernel_rfl) (by intro _ _ _ h; exact h) (Or.inl ⟨by rfl, ?_⟩) hHeld ?_
          rotate_left 1
          · intro wq hSw
            try dsimp only at hSw
            go_simp
            try (with_reducible rfl)
          try simp only [Act.put, List.setIfInBounds_toArray, List.set_cons_zero, List.set_cons_succ]
          refine wpAnyH_take (i := 9) (v := ?_) (by simp only [List.getElem?_toArray, List.getElem?_cons_succ, List.getElem?_cons_zero]; rfl) (by kernel_rfl) (by kernel_rfl) (by kernel_rfl) (by intro _ _ _ h; exact h) (Or.inl ⟨by rfl, ?_⟩) hHeld ?_
          rotate_left 1
          · intro wq hSw
            try dsimp only at hSw
            go_simp
            try (with_reducible rfl)
          try simp only [Act.put, List.setIfInBounds_toArray, List.set_cons_zero, List.set_cons_succ]
          refine wpAnyH_take (i := 10) (v := ?_) (by simp only [List.getElem?_toArray, List.getElem?_cons_succ, List.getElem?_cons_zero]; rfl) (by kernel_rfl) (by kernel_rfl) (by kernel_rfl) (by intro _ _ _ h; exact h) (Or.inl ⟨by rfl, ?_⟩) hHeld ?_
          rotate_left 1
          · intro wq hSw
            try dsimp only at hSw
            go_simp
            try (with_reducible rfl)
          try simp only [Act.put, List.setIfInBounds_toArray, List.set_cons_zero, List.set_cons_succ]
          refine wpAnyH_take (i := 11) (v := ?_) (by simp only [List.getElem?_toArray, List.getElem?_cons_succ, List.getElem?_cons_zero]; rfl) (by kernel_rfl) (by kernel_rfl) (by kernel_rfl) (by intro _ _ _ h; exact h) (Or.inl ⟨by rfl, ?_⟩) hHeld ?_
          rotate_left 1
          · intro wq hSw
            try dsimp only at hSw
            go_simp
            try (with_reducible rfl)
          try simp only [Act.put, List.setIfInBounds_toArray, List.set_cons_zero, List.set_cons_succ]
          refine wpAnyH_done (by kernel_rfl) ?_ _
          have bq := bb3.trans ((bd.trans (b4.mono bd.size)).mono (Nat.le_of_lt h3.lt))
          clear hm4 hHeld
          go_wp2_with fail
          refine (dclose_any w4 h5 hsm).mono ?_
          rintro e w6 ⟨rfl, h6, b6⟩
          go_wp2
          go_ret
          obtain ⟨e1, e2⟩ := e0.out
          obtain ⟨e3, e4, e5⟩ := e9.out
          rw [e1, e2, e3, e4, e5]
          exact ⟨rfl, h6, bq.trans b6⟩
        by_cases hk5 : kd = 5
        · subst hk5
          have e0 : Hid (Zz = zs.map fsZ ∧ Er = 0) := by
            obtain ⟨h1, h2, h3, h4, h5⟩ := hall.out
            refine ⟨h4.trans ?_, h5.trans ?_⟩ <;> simp [ruZs, ruEr, goF, hc, hu, cmdZs, cmdEr]
          refine wp_region_held_drew (S := fun w' => Below w3.heap.size w3 w') (by kernel_rfl) (Below.refl _ _).drew (fun hHeld => ?_)
          try dsimp only at hHeld
          have bd : Below w3.heap.size w3 w3.drew := (Below.refl w3.heap.size w3).drew
          have h4 := h3.under bd
          generalize w3.drew = wd at *
          try simp only [Act.put, List.setIfInBounds_toArray, List.set_cons_zero, List.set_cons_succ]
          refine wpAnyH_take (i := 1) (v := ?_) (by simp only [List.getElem?_toArray, List.getElem?_cons_succ, List.getElem?_cons_zero]; rfl) (by kernel_rfl) (by kernel_rfl) (by kernel_rfl) (by intro _ _ _ h; exact h) (Or.inl ⟨by rfl, ?_⟩) hHeld ?_
          rotate_left 1
          · intro wq hSw
            try dsimp only at hSw
            go_simp
            try (with_reducible rfl)
          try simp only [Act.put, List.setIfInBounds_toArray, List.set_cons_zero, List.set_cons_succ]
          refine wpAnyH_take (i := 2) (v := ?_) (by simp only [List.getElem?_toArray, List.getElem?_cons_succ, List.getElem?_cons_zero]; rfl) (by kernel_rfl) (by kernel_rfl) (by kernel_rfl) (by intro _ _ _ h; exact h) (Or.inl ⟨by rfl, ?_⟩) hHeld ?_
          rotate_left 1
          · intro wq hSw
            try dsimp only at hSw
            go_simp
            try (with_reducible rfl)
          try simp only [Act.put, List.setIfInBounds_toArray, List.set_cons_zero, List.set_cons_succ]
          refine wpAnyH_take (i := 3) (v := ?_) (by simp only [List.getElem?_toArray, List.getElem?_cons_succ, List.getElem?_cons_zero]; rfl) (by kernel_rfl) (by kernel_rfl) (by kernel_rfl) (by intro _ _ _ h; exact h) (Or.inl ⟨by rfl, ?_⟩) hHeld ?_
          rotate_left 1
          · intro wq hSw
            try dsimp only at hSw
            go_simp
            try (with_reducible rfl)
          try simp only [Act.put, List.setIfInBounds_toArray, List.set_cons_zero, List.set_cons_succ]
          refine wpAnyH_take (i := 4) (v := ?_) (by simp only [List.getElem?_toArray, List.getElem?_cons_succ, List.getElem?_cons_zero]; rfl) (by kernel_rfl) (by kernel_rfl) (by kernel_rfl) (by intro _ _ _ h; exact h) (Or.inl ⟨by rfl, ?_⟩) hHeld ?_
          rotate_left 1
          · intro wq hSw
            try dsimp only at hSw
            go_simp
            try (with_reducible rfl)
          try simp only [Act.put, List.setIfInBounds_toArray, List.set_cons_zero, List.set_cons_succ]
          refine wpAnyH_take (i := 5) (v := ?_) (by simp only [List.getElem?_toArray, List.getElem?_cons_succ, List.getElem?_cons_zero]; rfl) (by kernel_rfl) (by kernel_rfl) (by kernel_rfl) (by intro _ _ _ h; exact h) (Or.inl ⟨by rfl, ?_⟩) hHeld ?_
          rotate_left 1
          · intro wq hSw
            try dsimp only at hSw
            obtain ⟨x0, x1, x2, x3, x4, x5, x6, x7, _⟩ := (h3.blk.under hSw).eight
            go_simp
            try (with_reducible rfl)
          try simp only [Act.put, List.setIfInBounds_toArray, List.set_cons_zero, List.set_cons_succ]
          refine wpAnyH_ready (rs := [0]) (by kernel_rfl) (by simp) ?_
          refine AllReadyH.cons (by simp only [List.getElem?_toArray, List.getElem?_cons_zero]; rfl) (fun K hK => ?_) AllReadyH.nil
          have hC := dcommands_any wd
          go_simp
          refine hC.mono ?_
          clear hC
          rintro e w4 ⟨rfl, hw4⟩
          have b4 : Below wd.heap.size wd w4 := by rw [hw4]; exact (Below.refl _ _).alloc (Nat.le_refl _) _
          have hm4 : w4.heap[wd.heap.size]? = some (.map cmdES 5) := by rw [hw4]; exact (MapKept.heap_alloc wd _).1
          clear hw4
          go_wp2_with fail
          refine hK.out _ _ (bd.trans (b4.mono bd.size)) (fun _ => wpAnyH_stronger (S' := fun w' => Below w4.heap.size w4 w') (fun w' h => Below.trans (bd.trans (b4.mono bd.size)) (h.mono (Nat.le_trans bd.size b4.size))) _ _ _ _ ?_)
          clear hK K hHeld
          have hHeld := Below.refl w4.heap.size w4
          have h5 := h4.under b4
          try simp only [Act.put, List.setIfInBounds_toArray, List.set_cons_zero, List.set_cons_succ]
          refine wpAnyH_take (i := 6) (v := ?_) (by simp only [List.getElem?_toArray, List.getElem?_cons_succ, List.getElem?_cons_zero]; rfl) (by kernel_rfl) (by kernel_rfl) (by kernel_rfl) (by intro _ _ _ h; exact h) (Or.inl ⟨by rfl, ?_⟩) hHeld ?_
          rotate_left 1
          · intro wq hSw
            try dsimp only at hSw
            have hmq := (hSw.block _ (Array.getElem?_eq_some_iff.1 hm4).1).trans hm4
            have hlk := run_lookm wq _ cmdES 5 5 hmq 4 (.func (.func 77) #[] #[]) rfl
            go_simp
            try (with_reducible rfl)
          try simp only [Act.put, List.setIfInBounds_toArray, List.set_cons_zero, List.set_cons_succ]
          refine wpAnyH_take (i := 7) (v := ?_) (by simp only [List.getElem?_toArray, List.getElem?_cons_succ, List.getElem?_cons_zero]; rfl) (by kernel_rfl) (by kernel_rfl) (by kernel_rfl) (by intro _ _ _ h; exact h) (Or.inl ⟨by rfl, ?_⟩) hHeld ?_
          rotate_left 1
          · intro wq hSw
            try dsimp only at hSw
            go_simp
            try (with_reducible rfl)
          try simp only [Act.put, List.setIfInBounds_toArray, List.set_cons_zero, List.set_cons_succ]
          refine wpAnyH_take (i := 8) (v := ?_) (by simp only [List.getElem?_toArray, List.getElem?_cons_succ, List.getElem?_cons_zero]; rfl) (by kernel_rfl) (by kernel_rfl) (by kernel_rfl) (by intro _ _ _ h; exact h) (Or.inl ⟨by rfl, ?_⟩) hHeld ?_
          rotate_left 1
          · intro wq hSw
            try dsimp only at hSw
            go_simp
            try (with_reducible rfl)
          try simp only [Act.put, List.setIfInBounds_toArray, List.set_cons_zero, List.set_cons_succ]
          refine wpAnyH_take (i := 9) (v := ?_) (by simp only [List.getElem?_toArray, List.getElem?_cons_succ, List.getElem?_cons_zero]; rfl) (by kernel_rfl) (by kernel_rfl) (by kernel_rfl) (by intro _ _ _ h; exact h) (Or.inl ⟨by rfl, ?_⟩) hHeld ?_
          rotate_left 1
          · intro wq hSw
            try dsimp only at hSw
            go_simp
            try (with_reducible rfl)
          try simp only [Act.put, List.setIfInBounds_toArray, List.set_cons_zero, List.set_cons_succ]
          refine wpAnyH_take (i := 10) (v := ?_) (by simp only [List.getElem?_toArray, List.getElem?_cons_succ, List.getElem?_cons_zero]; rfl) (by kernel_rfl) (by kernel_rfl) (by kernel_rfl) (by intro _ _ _ h; exact h) (Or.inl ⟨by rfl, ?_⟩) hHeld ?_
          rotate_left 1
          · intro wq hSw
            try dsimp only at hSw
            go_simp
            try (with_reducible rfl)
          try simp only [Act.put, List.setIfInBounds_toArray, List.set_cons_zero, List.set_cons_succ]
          refine wpAnyH_take (i := 11) (v := ?_) (by simp only [List.getElem?_toArray, List.getElem?_cons_succ, List.getElem?_cons_zero]; rfl) (by kernel_rfl) (by kernel_rfl) (by kernel_rfl) (by intro _ _ _ h; exact h) (Or.inl ⟨by rfl, ?_⟩) hHeld ?_
          rotate_left 1
          · intro wq hSw
            try dsimp only at hSw
            go_simp
            try (with_reducible rfl)
          try simp only [Act.put, List.setIfInBounds_toArray, List.set_cons_zero, List.set_cons_succ]
          refine wpAnyH_done (by kernel_rfl) ?_ _
          have bq := bb3.trans ((bd.trans (b4.mono bd.size)).mono (Nat.le_of_lt h3.lt))
          clear hm4 hHeld
          go_wp2_with fail
          refine (dflush_any w4 h5 hsm).mono ?_
          rintro e w6 ⟨rfl, h6, b6⟩
          go_wp2
          go_ret
          obtain ⟨e1, e2⟩ := e0.out
          obtain ⟨e3, e4, e5⟩ := e9.out
          rw [e1, e2, e3, e4, e5]
          exact ⟨rfl, h6, bq.trans b6⟩
        have e0 : Hid (Zz = zs ∧ Er = 1) := by
          obtain ⟨h1, h2, h3, h4, h5⟩ := hall.out
          refine ⟨h4.trans ?_, h5.trans ?_⟩ <;> simp [ruZs, ruEr, goF, hc, hu, cmdZs, cmdEr, hk1, hk2, hk3, hk4, hk5]
        have hno := find_no kd (by simpa using hk1) (by simpa using hk2) (by simpa using hk3) (by simpa using hk4) (by simpa using hk5)
        refine wp_region_held_drew (S := fun w' => Below w3.heap.size w3 w') (by kernel_rfl) (Below.refl _ _).drew (fun hHeld => ?_)
        try dsimp only at hHeld
        have bd : Below w3.heap.size w3 w3.drew := (Below.refl w3.heap.size w3).drew
        have h4 := h3.under bd
        generalize w3.drew = wd at *
        try simp only [Act.put, List.setIfInBounds_toArray, List.set_cons_zero, List.set_cons_succ]
        refine wpAnyH_take (i := 1) (v := ?_) (by simp only [List.getElem?_toArray, List.getElem?_cons_succ, List.getElem?_cons_zero]; rfl) (by kernel_rfl) (by kernel_rfl) (by kernel_rfl) (by intro _ _ _ h; exact h) (Or.inl ⟨by rfl, ?_⟩) hHeld ?_
        rotate_left 1
        · intro wq hSw
          try dsimp only at hSw
          go_simp
          try (with_reducible rfl)
        try simp only [Act.put, List.setIfInBounds_toArray, List.set_cons_zero, List.set_cons_succ]
        refine wpAnyH_take (i := 2) (v := ?_) (by simp only [List.getElem?_toArray, List.getElem?_cons_succ, List.getElem?_cons_zero]; rfl) (by kernel_rfl) (by kernel_rfl) (by kernel_rfl) (by intro _ _ _ h; exact h) (Or.inl ⟨by rfl, ?_⟩) hHeld ?_
        rotate_left 1
        · intro wq hSw
          try dsimp only at hSw
          go_simp
          try (with_reducible rfl)
        try simp only [Act.put, List.setIfInBounds_toArray, List.set_cons_zero, List.set_cons_succ]
        refine wpAnyH_take (i := 3) (v := ?_) (by simp only [List.getElem?_toArray, List.getElem?_cons_succ, List.getElem?_cons_zero]; rfl) (by kernel_rfl) (by kernel_rfl) (by kernel_rfl) (by intro _ _ _ h; exact h) (Or.inl ⟨by rfl, ?_⟩) hHeld ?_
        rotate_left 1
        · intro wq hSw
          try dsimp only at hSw
          go_simp
          try (with_reducible rfl)
        try simp only [Act.put, List.setIfInBounds_toArray, List.set_cons_zero, List.set_cons_succ]
        refine wpAnyH_take (i := 4) (v := ?_) (by simp only [List.getElem?_toArray, List.getElem?_cons_succ, List.getElem?_cons_zero]; rfl) (by kernel_rfl) (by kernel_rfl) (by kernel_rfl) (by intro _ _ _ h; exact h) (Or.inl ⟨by rfl, ?_⟩) hHeld ?_
        rotate_left 1
        · intro wq hSw
          try dsimp only at hSw
          go_simp
          try (with_reducible rfl)
        try simp only [Act.put, List.setIfInBounds_toArray, List.set_cons_zero, List.set_cons_succ]
        refine wpAnyH_take (i := 5) (v := ?_) (by simp only [List.getElem?_toArray, List.getElem?_cons_succ, List.getElem?_cons_zero]; rfl) (by kernel_rfl) (by kernel_rfl) (by kernel_rfl) (by intro _ _ _ h; exact h) (Or.inl ⟨by rfl, ?_⟩) hHeld ?_
        rotate_left 1
        · intro wq hSw
          try dsimp only at hSw
          obtain ⟨x0, x1, x2, x3, x4, x5, x6, x7, _⟩ := (h3.blk.under hSw).eight
          go_simp
          try (with_reducible rfl)
        try simp only [Act.put, List.setIfInBounds_toArray, List.set_cons_zero, List.set_cons_succ]
        refine wpAnyH_ready (rs := [0]) (by kernel_rfl) (by simp) ?_
        refine AllReadyH.cons (by simp only [List.getElem?_toArray, List.getElem?_cons_zero]; rfl) (fun K hK => ?_) AllReadyH.nil
        have hC := dcommands_any wd
        go_simp
        refine hC.mono ?_
        clear hC
        rintro e w4 ⟨rfl, hw4⟩
        have b4 : Below wd.heap.size wd w4 := by rw [hw4]; exact (Below.refl _ _).alloc (Nat.le_refl _) _
        have hm4 : w4.heap[wd.heap.size]? = some (.map cmdES 5) := by rw [hw4]; exact (MapKept.heap_alloc wd _).1
        clear hw4
        go_wp2_with fail
        refine hK.out _ _ (bd.trans (b4.mono bd.size)) (fun _ => wpAnyH_stronger (S' := fun w' => Below w4.heap.size w4 w') (fun w' h => Below.trans (bd.trans (b4.mono bd.size)) (h.mono (Nat.le_trans bd.size b4.size))) _ _ _ _ ?_)
        clear hK K hHeld
        have hHeld := Below.refl w4.heap.size w4
        have h5 := h4.under b4
        try simp only [Act.put, List.setIfInBounds_toArray, List.set_cons_zero, List.set_cons_succ]
        refine wpAnyH_take (i := 6) (v := ?_) (by simp only [List.getElem?_toArray, List.getElem?_cons_succ, List.getElem?_cons_zero]; rfl) (by kernel_rfl) (by kernel_rfl) (by kernel_rfl) (by intro _ _ _ h; exact h) (Or.inl ⟨by rfl, ?_⟩) hHeld ?_
        rotate_left 1
        · intro wq hSw
          try dsimp only at hSw
          have hmq := (hSw.block _ (Array.getElem?_eq_some_iff.1 hm4).1).trans hm4
          have hlk := run_lookm_no wq _ cmdES 5 kd hmq hno
          go_simp
          try (with_reducible rfl)
        try simp only [Act.put, List.setIfInBounds_toArray, List.set_cons_zero, List.set_cons_succ]
        refine wpAnyH_take (i := 7) (v := ?_) (by simp only [List.getElem?_toArray, List.getElem?_cons_succ, List.getElem?_cons_zero]; rfl) (by kernel_rfl) (by kernel_rfl) (by kernel_rfl) (by intro _ _ _ h; exact h) (Or.inl ⟨by rfl, ?_⟩) hHeld ?_
        rotate_left 1
        · intro wq hSw
          try dsimp only at hSw
          go_simp
          try (with_reducible rfl)
        try simp only [Act.put, List.setIfInBounds_toArray, List.set_cons_zero, List.set_cons_succ]
        refine wpAnyH_take (i := 8) (v := ?_) (by simp only [List.getElem?_toArray, List.getElem?_cons_succ, List.getElem?_cons_zero]; rfl) (by kernel_rfl) (by kernel_rfl) (by kernel_rfl) (by intro _ _ _ h; exact h) (Or.inl ⟨by rfl, ?_⟩) hHeld ?_
        rotate_left 1
        · intro wq hSw
          try dsimp only at hSw
          go_simp
          try (with_reducible rfl)
        try simp only [Act.put, List.setIfInBounds_toArray, List.set_cons_zero, List.set_cons_succ]
        refine wpAnyH_take (i := 9) (v := ?_) (by simp only [List.getElem?_toArray, List.getElem?_cons_succ, List.getElem?_cons_zero]; rfl) (by kernel_rfl) (by kernel_rfl) (by kernel_rfl) (by intro _ _ _ h; exact h) (Or.inl ⟨by rfl, ?_⟩) hHeld ?_
        rotate_left 1
        · intro wq hSw
          try dsimp only at hSw
          go_simp
          try (with_reducible rfl)
        try simp only [Act.put, List.setIfInBounds_toArray, List.set_cons_zero, List.set_cons_succ]
        refine wpAnyH_take (i := 10) (v := ?_) (by simp only [List.getElem?_toArray, List.getElem?_cons_succ, List.getElem?_cons_zero]; rfl) (by kernel_rfl) (by kernel_rfl) (by kernel_rfl) (by intro _ _ _ h; exact h) (Or.inl ⟨by rfl, ?_⟩) hHeld ?_
        rotate_left 1
        · intro wq hSw
          try dsimp only at hSw
          go_simp
          try (with_reducible rfl)
        try simp only [Act.put, List.setIfInBounds_toArray, List.set_cons_zero, List.set_cons_succ]
        refine wpAnyH_take (i := 11) (v := ?_) (by simp only [List.getElem?_toArray, List.getElem?_cons_succ, List.getElem?_cons_zero]; rfl) (by kernel_rfl) (by kernel_rfl) (by kernel_rfl) (by intro _ _ _ h; exact h) (Or.inl ⟨by rfl, ?_⟩) hHeld ?_
        rotate_left 1
        · intro wq hSw
          try dsimp only at hSw
          go_simp
          try (with_reducible rfl)
        try simp only [Act.put, List.setIfInBounds_toArray, List.set_cons_zero, List.set_cons_succ]
        refine wpAnyH_done (by kernel_rfl) ?_ _
        have bq := bb3.trans ((bd.trans (b4.mono bd.size)).mono (Nat.le_of_lt h3.lt))
        clear hm4 hHeld hno
        go_wp2
        go_ret
        obtain ⟨e1, e2⟩ := e0.out
        obtain ⟨e3, e4, e5⟩ := e9.out
        rw [e1, e2, e3, e4, e5]
        exact h5.post 1 bq
      · have e9 : Hid (Lf = lf ∧ Dn = wrap64 (dn + 1) ∧ Dw = false) := by
          obtain ⟨h1, h2, h3, h4, h5⟩ := hall.out
          refine ⟨h1.trans ?_, h2.trans ?_, h3.trans ?_⟩ <;> simp [ruLf, ruDn, ruDw, goF, hc, hu, hp]
        obtain ⟨dn1, hdn1⟩ : ∃ x, wrap64 (dn + 1) = x := ⟨_, rfl⟩
        rw [hdn1] at e9
        clear hw1
        go_wp2_with fail
        have h3 := h.done dn1
        have bb3 := bb.setCell (p := ⟨kw, 4, none⟩) hat (.int .i64 dn1)
        clear p0 p1 p2 p3 p4 p5 p6 p7 f0 f1 f2 f3 f4 f5 f6 f7
        generalize w1.setCell ⟨kw, 4, none⟩ (.int .i64 dn1) = w3 at *
        clear h bb hdn1
        by_cases hk1 : kd = 1
        · subst hk1
          have e0 : Hid (Zz = chgZs zs N (apH size (openF zs) b) (apE size (openF zs) b) ∧ Er = chgEr zs N (apE size (openF zs) b)) := by
            obtain ⟨h1, h2, h3, h4, h5⟩ := hall.out
            refine ⟨h4.trans ?_, h5.trans ?_⟩ <;> simp [ruZs, ruEr, goF, hc, hu, cmdZs, cmdEr]
          refine wp_region_held_drew (S := fun w' => Below w3.heap.size w3 w') (by kernel_rfl) (Below.refl _ _).drew (fun hHeld => ?_)
          try dsimp only at hHeld
          have bd : Below w3.heap.size w3 w3.drew := (Below.refl w3.heap.size w3).drew
          have h4 := h3.under bd
          generalize w3.drew = wd at *
          try simp only [Act.put, List.setIfInBounds_toArray, List.set_cons_zero, List.set_cons_succ]
          refine wpAnyH_take (i := 1) (v := ?_) (by simp only [List.getElem?_toArray, List.getElem?_cons_succ, List.getElem?_cons_zero]; rfl) (by kernel_rfl) (by kernel_rfl) (by kernel_rfl) (by intro _ _ _ h; exact h) (Or.inl ⟨by rfl, ?_⟩) hHeld ?_
          rotate_left 1
          · intro wq hSw
            try dsimp only at hSw
            go_simp
            try (with_reducible rfl)
          try simp only [Act.put, List.setIfInBounds_toArray, List.set_cons_zero, List.set_cons_succ]
          refine wpAnyH_take (i := 2) (v := ?_) (by simp only [List.getElem?_toArray, List.getElem?_cons_succ, List.getElem?_cons_zero]; rfl) (by kernel_rfl) (by kernel_rfl) (by kernel_rfl) (by intro _ _ _ h; exact h) (Or.inl ⟨by rfl, ?_⟩) hHeld ?_
          rotate_left 1
          · intro wq hSw
            try dsimp only at hSw
            go_simp
            try (with_reducible rfl)
          try simp only [Act.put, List.setIfInBounds_toArray, List.set_cons_zero, List.set_cons_succ]
          refine wpAnyH_take (i := 3) (v := ?_) (by simp only [List.getElem?_toArray, List.getElem?_cons_succ, List.getElem?_cons_zero]; rfl) (by kernel_rfl) (by kernel_rfl) (by kernel_rfl) (by intro _ _ _ h; exact h) (Or.inl ⟨by rfl, ?_⟩) hHeld ?_
          rotate_left 1
          · intro wq hSw
            try dsimp only at hSw
            go_simp
            try (with_reducible rfl)
          try simp only [Act.put, List.setIfInBounds_toArray, List.set_cons_zero, List.set_cons_succ]
          refine wpAnyH_take (i := 4) (v := ?_) (by simp only [List.getElem?_toArray, List.getElem?_cons_succ, List.getElem?_cons_zero]; rfl) (by kernel_rfl) (by kernel_rfl) (by kernel_rfl) (by intro _ _ _ h; exact h) (Or.inl ⟨by rfl, ?_⟩) hHeld ?_
          rotate_left 1
          · intro wq hSw
            try dsimp only at hSw
            go_simp
            try (with_reducible rfl)
          try simp only [Act.put, List.setIfInBounds_toArray, List.set_cons_zero, List.set_cons_succ]
          refine wpAnyH_take (i := 5) (v := ?_) (by simp only [List.getElem?_toArray, List.getElem?_cons_succ, List.getElem?_cons_zero]; rfl) (by kernel_rfl) (by kernel_rfl) (by kernel_rfl) (by intro _ _ _ h; exact h) (Or.inl ⟨by rfl, ?_⟩) hHeld ?_
          rotate_left 1
          · intro wq hSw
            try dsimp only at hSw
            obtain ⟨x0, x1, x2, x3, x4, x5, x6, x7, _⟩ := (h3.blk.under hSw).eight
            go_simp
            try (with_reducible rfl)
          try simp only [Act.put, List.setIfInBounds_toArray, List.set_cons_zero, List.set_cons_succ]
          refine wpAnyH_ready (rs := [0]) (by kernel_rfl) (by simp) ?_
          refine AllReadyH.cons (by simp only [List.getElem?_toArray, List.getElem?_cons_zero]; rfl) (fun K hK => ?_) AllReadyH.nil
          have hC := dcommands_any wd
          go_simp
          refine hC.mono ?_
          clear hC
          rintro e w4 ⟨rfl, hw4⟩
          have b4 : Below wd.heap.size wd w4 := by rw [hw4]; exact (Below.refl _ _).alloc (Nat.le_refl _) _
          have hm4 : w4.heap[wd.heap.size]? = some (.map cmdES 5) := by rw [hw4]; exact (MapKept.heap_alloc wd _).1
          clear hw4
          go_wp2_with fail
          refine hK.out _ _ (bd.trans (b4.mono bd.size)) (fun _ => wpAnyH_stronger (S' := fun w' => Below w4.heap.size w4 w') (fun w' h => Below.trans (bd.trans (b4.mono bd.size)) (h.mono (Nat.le_trans bd.size b4.size))) _ _ _ _ ?_)
          clear hK K hHeld
          have hHeld := Below.refl w4.heap.size w4
          have h5 := h4.under b4
          try simp only [Act.put, List.setIfInBounds_toArray, List.set_cons_zero, List.set_cons_succ]
          refine wpAnyH_take (i := 6) (v := ?_) (by simp only [List.getElem?_toArray, List.getElem?_cons_succ, List.getElem?_cons_zero]; rfl) (by kernel_rfl) (by kernel_rfl) (by kernel_rfl) (by intro _ _ _ h; exact h) (Or.inl ⟨by rfl, ?_⟩) hHeld ?_
          rotate_left 1
          · intro wq hSw
            try dsimp only at hSw
            have hmq := (hSw.block _ (Array.getElem?_eq_some_iff.1 hm4).1).trans hm4
            have hlk := run_lookm wq _ cmdES 5 1 hmq 0 (.func (.func 73) #[] #[]) rfl
            go_simp
            try (with_reducible rfl)
          try simp only [Act.put, List.setIfInBounds_toArray, List.set_cons_zero, List.set_cons_succ]
          refine wpAnyH_take (i := 7) (v := ?_) (by simp only [List.getElem?_toArray, List.getElem?_cons_succ, List.getElem?_cons_zero]; rfl) (by kernel_rfl) (by kernel_rfl) (by kernel_rfl) (by intro _ _ _ h; exact h) (Or.inl ⟨by rfl, ?_⟩) hHeld ?_
          rotate_left 1
          · intro wq hSw
            try dsimp only at hSw
            go_simp
            try (with_reducible rfl)
          try simp only [Act.put, List.setIfInBounds_toArray, List.set_cons_zero, List.set_cons_succ]
          refine wpAnyH_take (i := 8) (v := ?_) (by simp only [List.getElem?_toArray, List.getElem?_cons_succ, List.getElem?_cons_zero]; rfl) (by kernel_rfl) (by kernel_rfl) (by kernel_rfl) (by intro _ _ _ h; exact h) (Or.inl ⟨by rfl, ?_⟩) hHeld ?_
          rotate_left 1
          · intro wq hSw
            try dsimp only at hSw
            go_simp
            try (with_reducible rfl)
          try simp only [Act.put, List.setIfInBounds_toArray, List.set_cons_zero, List.set_cons_succ]
          refine wpAnyH_take (i := 9) (v := ?_) (by simp only [List.getElem?_toArray, List.getElem?_cons_succ, List.getElem?_cons_zero]; rfl) (by kernel_rfl) (by kernel_rfl) (by kernel_rfl) (by intro _ _ _ h; exact h) (Or.inl ⟨by rfl, ?_⟩) hHeld ?_
          rotate_left 1
          · intro wq hSw
            try dsimp only at hSw
            go_simp
            try (with_reducible rfl)
          try simp only [Act.put, List.setIfInBounds_toArray, List.set_cons_zero, List.set_cons_succ]
          refine wpAnyH_take (i := 10) (v := ?_) (by simp only [List.getElem?_toArray, List.getElem?_cons_succ, List.getElem?_cons_zero]; rfl) (by kernel_rfl) (by kernel_rfl) (by kernel_rfl) (by intro _ _ _ h; exact h) (Or.inl ⟨by rfl, ?_⟩) hHeld ?_
          rotate_left 1
          · intro wq hSw
            try dsimp only at hSw
            go_simp
            try (with_reducible rfl)
          try simp only [Act.put, List.setIfInBounds_toArray, List.set_cons_zero, List.set_cons_succ]
          refine wpAnyH_take (i := 11) (v := ?_) (by simp only [List.getElem?_toArray, List.getElem?_cons_succ, List.getElem?_cons_zero]; rfl) (by kernel_rfl) (by kernel_rfl) (by kernel_rfl) (by intro _ _ _ h; exact h) (Or.inl ⟨by rfl, ?_⟩) hHeld ?_
          rotate_left 1
          · intro wq hSw
            try dsimp only at hSw
            go_simp
            try (with_reducible rfl)
          try simp only [Act.put, List.setIfInBounds_toArray, List.set_cons_zero, List.set_cons_succ]
          refine wpAnyH_done (by kernel_rfl) ?_ _
          have bq := bb3.trans ((bd.trans (b4.mono bd.size)).mono (Nat.le_of_lt h3.lt))
          clear hm4 hHeld
          go_wp2_with fail
          refine (dappend_any w4 h5 hsm hnd).mono ?_
          rintro e w6 ⟨rfl, h6, b6⟩
          go_wp2
          go_ret
          obtain ⟨e1, e2⟩ := e0.out
          obtain ⟨e3, e4, e5⟩ := e9.out
          rw [e1, e2, e3, e4, e5]
          exact ⟨rfl, h6, bq.trans b6⟩
        by_cases hk2 : kd = 2
        · subst hk2
          have e0 : Hid (Zz = chgZs zs N rsH rsE ∧ Er = chgEr zs N rsE) := by
            obtain ⟨h1, h2, h3, h4, h5⟩ := hall.out
            refine ⟨h4.trans ?_, h5.trans ?_⟩ <;> simp [ruZs, ruEr, goF, hc, hu, cmdZs, cmdEr]
          refine wp_region_held_drew (S := fun w' => Below w3.heap.size w3 w') (by kernel_rfl) (Below.refl _ _).drew (fun hHeld => ?_)
          try dsimp only at hHeld
          have bd : Below w3.heap.size w3 w3.drew := (Below.refl w3.heap.size w3).drew
          have h4 := h3.under bd
          generalize w3.drew = wd at *
          try simp only [Act.put, List.setIfInBounds_toArray, List.set_cons_zero, List.set_cons_succ]
          refine wpAnyH_take (i := 1) (v := ?_) (by simp only [List.getElem?_toArray, List.getElem?_cons_succ, List.getElem?_cons_zero]; rfl) (by kernel_rfl) (by kernel_rfl) (by kernel_rfl) (by intro _ _ _ h; exact h) (Or.inl ⟨by rfl, ?_⟩) hHeld ?_
          rotate_left 1
          · intro wq hSw
            try dsimp only at hSw
            go_simp
            try (with_reducible rfl)
          try simp only [Act.put, List.setIfInBounds_toArray, List.set_cons_zero, List.set_cons_succ]
          refine wpAnyH_take (i := 2) (v := ?_) (by simp only [List.getElem?_toArray, List.getElem?_cons_succ, List.getElem?_cons_zero]; rfl) (by kernel_rfl) (by kernel_rfl) (by kernel_rfl) (by intro _ _ _ h; exact h) (Or.inl ⟨by rfl, ?_⟩) hHeld ?_
          rotate_left 1
          · intro wq hSw
            try dsimp only at hSw
            go_simp
            try (with_reducible rfl)
          try simp only [Act.put, List.setIfInBounds_toArray, List.set_cons_zero, List.set_cons_succ]
          refine wpAnyH_take (i := 3) (v := ?_) (by simp only [List.getElem?_toArray, List.getElem?_cons_succ, List.getElem?_cons_zero]; rfl) (by kernel_rfl) (by kernel_rfl) (by kernel_rfl) (by intro _ _ _ h; exact h) (Or.inl ⟨by rfl, ?_⟩) hHeld ?_
          rotate_left 1
          · intro wq hSw
            try dsimp only at hSw
            go_simp
            try (with_reducible rfl)
          try simp only [Act.put, List.setIfInBounds_toArray, List.set_cons_zero, List.set_cons_succ]
          refine wpAnyH_take (i := 4) (v := ?_) (by simp only [List.getElem?_toArray, List.getElem?_cons_succ, List.getElem?_cons_zero]; rfl) (by kernel_rfl) (by kernel_rfl) (by kernel_rfl) (by intro _ _ _ h; exact h) (Or.inl ⟨by rfl, ?_⟩) hHeld ?_
          rotate_left 1
          · intro wq hSw
            try dsimp only at hSw
            go_simp
            try (with_reducible rfl)
          try simp only [Act.put, List.setIfInBounds_toArray, List.set_cons_zero, List.set_cons_succ]
          refine wpAnyH_take (i := 5) (v := ?_) (by simp only [List.getElem?_toArray, List.getElem?_cons_succ, List.getElem?_cons_zero]; rfl) (by kernel_rfl) (by kernel_rfl) (by kernel_rfl) (by intro _ _ _ h; exact h) (Or.inl ⟨by rfl, ?_⟩) hHeld ?_
          rotate_left 1
          · intro wq hSw
            try dsimp only at hSw
            obtain ⟨x0, x1, x2, x3, x4, x5, x6, x7, _⟩ := (h3.blk.under hSw).eight
            go_simp
            try (with_reducible rfl)
          try simp only [Act.put, List.setIfInBounds_toArray, List.set_cons_zero, List.set_cons_succ]
          refine wpAnyH_ready (rs := [0]) (by kernel_rfl) (by simp) ?_
          refine AllReadyH.cons (by simp only [List.getElem?_toArray, List.getElem?_cons_zero]; rfl) (fun K hK => ?_) AllReadyH.nil
          have hC := dcommands_any wd
          go_simp
          refine hC.mono ?_
          clear hC
          rintro e w4 ⟨rfl, hw4⟩
          have b4 : Below wd.heap.size wd w4 := by rw [hw4]; exact (Below.refl _ _).alloc (Nat.le_refl _) _
          have hm4 : w4.heap[wd.heap.size]? = some (.map cmdES 5) := by rw [hw4]; exact (MapKept.heap_alloc wd _).1
          clear hw4
          go_wp2_with fail
          refine hK.out _ _ (bd.trans (b4.mono bd.size)) (fun _ => wpAnyH_stronger (S' := fun w' => Below w4.heap.size w4 w') (fun w' h => Below.trans (bd.trans (b4.mono bd.size)) (h.mono (Nat.le_trans bd.size b4.size))) _ _ _ _ ?_)
          clear hK K hHeld
          have hHeld := Below.refl w4.heap.size w4
          have h5 := h4.under b4
          try simp only [Act.put, List.setIfInBounds_toArray, List.set_cons_zero, List.set_cons_succ]
          refine wpAnyH_take (i := 6) (v := ?_) (by simp only [List.getElem?_toArray, List.getElem?_cons_succ, List.getElem?_cons_zero]; rfl) (by kernel_rfl) (by kernel_rfl) (by kernel_rfl) (by intro _ _ _ h; exact h) (Or.inl ⟨by rfl, ?_⟩) hHeld ?_
          rotate_left 1
          · intro wq hSw
            try dsimp only at hSw
            have hmq := (hSw.block _ (Array.getElem?_eq_some_iff.1 hm4).1).trans hm4
            have hlk := run_lookm wq _ cmdES 5 2 hmq 1 (.func (.func 74) #[] #[]) rfl
            go_simp
            try (with_reducible rfl)
          try simp only [Act.put, List.setIfInBounds_toArray, List.set_cons_zero, List.set_cons_succ]
          refine wpAnyH_take (i := 7) (v := ?_) (by simp only [List.getElem?_toArray, List.getElem?_cons_succ, List.getElem?_cons_zero]; rfl) (by kernel_rfl) (by kernel_rfl) (by kernel_rfl) (by intro _ _ _ h; exact h) (Or.inl ⟨by rfl, ?_⟩) hHeld ?_
          rotate_left 1
          · intro wq hSw
            try dsimp only at hSw
            go_simp
            try (with_reducible rfl)
          try simp only [Act.put, List.setIfInBounds_toArray, List.set_cons_zero, List.set_cons_succ]
          refine wpAnyH_take (i := 8) (v := ?_) (by simp only [List.getElem?_toArray, List.getElem?_cons_succ, List.getElem?_cons_zero]; rfl) (by kernel_rfl) (by kernel_rfl) (by kernel_rfl) (by intro _ _ _ h; exact h) (Or.inl ⟨by rfl, ?_⟩) hHeld ?_
          rotate_left 1
          · intro wq hSw
            try dsimp only at hSw
            go_simp
            try (with_reducible rfl)
          try simp only [Act.put, List.setIfInBounds_toArray, List.set_cons_zero, List.set_cons_succ]
          refine wpAnyH_take (i := 9) (v := ?_) (by simp only [List.getElem?_toArray, List.getElem?_cons_succ, List.getElem?_cons_zero]; rfl) (by kernel_rfl) (by kernel_rfl) (by kernel_rfl) (by intro _ _ _ h; exact h) (Or.inl ⟨by rfl, ?_⟩) hHeld ?_
          rotate_left 1
          · intro wq hSw
            try dsimp only at hSw
            go_simp
            try (with_reducible rfl)
          try simp only [Act.put, List.setIfInBounds_toArray, List.set_cons_zero, List.set_cons_succ]
          refine wpAnyH_take (i := 10) (v := ?_) (by simp only [List.getElem?_toArray, List.getElem?_cons_succ, List.getElem?_cons_zero]; rfl) (by kernel_rfl) (by kernel_rfl) (by kernel_rfl) (by intro _ _ _ h; exact h) (Or.inl ⟨by rfl, ?_⟩) hHeld ?_
          rotate_left 1
          · intro wq hSw
            try dsimp only at hSw
            go_simp
            try (with_reducible rfl)
          try simp only [Act.put, List.setIfInBounds_toArray, List.set_cons_zero, List.set_cons_succ]
          refine wpAnyH_take (i := 11) (v := ?_) (by simp only [List.getElem?_toArray, List.getElem?_cons_succ, List.getElem?_cons_zero]; rfl) (by kernel_rfl) (by kernel_rfl) (by kernel_rfl) (by intro _ _ _ h; exact h) (Or.inl ⟨by rfl, ?_⟩) hHeld ?_
          rotate_left 1
          · intro wq hSw
            try dsimp only at hSw
            go_simp
            try (with_reducible rfl)
          try simp only [Act.put, List.setIfInBounds_toArray, List.set_cons_zero, List.set_cons_succ]
          refine wpAnyH_done (by kernel_rfl) ?_ _
          have bq := bb3.trans ((bd.trans (b4.mono bd.size)).mono (Nat.le_of_lt h3.lt))
          clear hm4 hHeld
          go_wp2_with fail
          refine (dreset_any w4 h5 hsm).mono ?_
          rintro e w6 ⟨rfl, h6, b6⟩
          go_wp2
          go_ret
          obtain ⟨e1, e2⟩ := e0.out
          obtain ⟨e3, e4, e5⟩ := e9.out
          rw [e1, e2, e3, e4, e5]
          exact ⟨rfl, h6, bq.trans b6⟩
        by_cases hk3 : kd = 3
        · subst hk3
          have e0 : Hid (Zz = chgZs zs N fiH fiE ∧ Er = chgEr zs N fiE) := by
            obtain ⟨h1, h2, h3, h4, h5⟩ := hall.out
            refine ⟨h4.trans ?_, h5.trans ?_⟩ <;> simp [ruZs, ruEr, goF, hc, hu, cmdZs, cmdEr]
          refine wp_region_held_drew (S := fun w' => Below w3.heap.size w3 w') (by kernel_rfl) (Below.refl _ _).drew (fun hHeld => ?_)
          try dsimp only at hHeld
          have bd : Below w3.heap.size w3 w3.drew := (Below.refl w3.heap.size w3).drew
          have h4 := h3.under bd
          generalize w3.drew = wd at *
          try simp only [Act.put, List.setIfInBounds_toArray, List.set_cons_zero, List.set_cons_succ]
          refine wpAnyH_take (i := 1) (v := ?_) (by simp only [List.getElem?_toArray, List.getElem?_cons_succ, List.getElem?_cons_zero]; rfl) (by kernel_rfl) (by kernel_rfl) (by kernel_rfl) (by intro _ _ _ h; exact h) (Or.inl ⟨by rfl, ?_⟩) hHeld ?_
          rotate_left 1
          · intro wq hSw
            try dsimp only at hSw
            go_simp
            try (with_reducible rfl)
          try simp only [Act.put, List.setIfInBounds_toArray, List.set_cons_zero, List.set_cons_succ]
          refine wpAnyH_take (i := 2) (v := ?_) (by simp only [List.getElem?_toArray, List.getElem?_cons_succ, List.getElem?_cons_zero]; rfl) (by kernel_rfl) (by kernel_rfl) (by kernel_rfl) (by intro _ _ _ h; exact h) (Or.inl ⟨by rfl, ?_⟩) hHeld ?_
          rotate_left 1
          · intro wq hSw
            try dsimp only at hSw
            go_simp
            try (with_reducible rfl)
          try simp only [Act.put, List.setIfInBounds_toArray, List.set_cons_zero, List.set_cons_succ]
          refine wpAnyH_take (i := 3) (v := ?_) (by simp only [List.getElem?_toArray, List.getElem?_cons_succ, List.getElem?_cons_zero]; rfl) (by kernel_rfl) (by kernel_rfl) (by kernel_rfl) (by intro _ _ _ h; exact h) (Or.inl ⟨by rfl, ?_⟩) hHeld ?_
          rotate_left 1
          · intro wq hSw
            try dsimp only at hSw
            go_simp
            try (with_reducible rfl)
          try simp only [Act.put, List.setIfInBounds_toArray, List.set_cons_zero, List.set_cons_succ]
          refine wpAnyH_take (i := 4) (v := ?_) (by simp only [List.getElem?_toArray, List.getElem?_cons_succ, List.getElem?_cons_zero]; rfl) (by kernel_rfl) (by kernel_rfl) (by kernel_rfl) (by intro _ _ _ h; exact h) (Or.inl ⟨by rfl, ?_⟩) hHeld ?_
          rotate_left 1
          · intro wq hSw
            try dsimp only at hSw
            go_simp
            try (with_reducible rfl)
          try simp only [Act.put, List.setIfInBounds_toArray, List.set_cons_zero, List.set_cons_succ]
          refine wpAnyH_take (i := 5) (v := ?_) (by simp only [List.getElem?_toArray, List.getElem?_cons_succ, List.getElem?_cons_zero]; rfl) (by kernel_rfl) (by kernel_rfl) (by kernel_rfl) (by intro _ _ _ h; exact h) (Or.inl ⟨by rfl, ?_⟩) hHeld ?_
          rotate_left 1
          · intro wq hSw
            try dsimp only at hSw
            obtain ⟨x0, x1, x2, x3, x4, x5, x6, x7, _⟩ := (h3.blk.under hSw).eight
            go_simp
            try (with_reducible rfl)
          try simp only [Act.put, List.setIfInBounds_toArray, List.set_cons_zero, List.set_cons_succ]
          refine wpAnyH_ready (rs := [0]) (by kernel_rfl) (by simp) ?_
          refine AllReadyH.cons (by simp only [List.getElem?_toArray, List.getElem?_cons_zero]; rfl) (fun K hK => ?_) AllReadyH.nil
          have hC := dcommands_any wd
          go_simp
          refine hC.mono ?_
          clear hC
          rintro e w4 ⟨rfl, hw4⟩
          have b4 : Below wd.heap.size wd w4 := by rw [hw4]; exact (Below.refl _ _).alloc (Nat.le_refl _) _
          have hm4 : w4.heap[wd.heap.size]? = some (.map cmdES 5) := by rw [hw4]; exact (MapKept.heap_alloc wd _).1
          clear hw4
          go_wp2_with fail
          refine hK.out _ _ (bd.trans (b4.mono bd.size)) (fun _ => wpAnyH_stronger (S' := fun w' => Below w4.heap.size w4 w') (fun w' h => Below.trans (bd.trans (b4.mono bd.size)) (h.mono (Nat.le_trans bd.size b4.size))) _ _ _ _ ?_)
          clear hK K hHeld
          have hHeld := Below.refl w4.heap.size w4
          have h5 := h4.under b4
          try simp only [Act.put, List.setIfInBounds_toArray, List.set_cons_zero, List.set_cons_succ]
          refine wpAnyH_take (i := 6) (v := ?_) (by simp only [List.getElem?_toArray, List.getElem?_cons_succ, List.getElem?_cons_zero]; rfl) (by kernel_rfl) (by kernel_rfl) (by kernel_rfl) (by intro _ _ _ h; exact h) (Or.inl ⟨by rfl, ?_⟩) hHeld ?_
          rotate_left 1
          · intro wq hSw
            try dsimp only at hSw
            have hmq := (hSw.block _ (Array.getElem?_eq_some_iff.1 hm4).1).trans hm4
            have hlk := run_lookm wq _ cmdES 5 3 hmq 2 (.func (.func 75) #[] #[]) rfl
            go_simp
            try (with_reducible rfl)
          try simp only [Act.put, List.setIfInBounds_toArray, List.set_cons_zero, List.set_cons_succ]
          refine wpAnyH_take (i := 7) (v := ?_) (by simp only [List.getElem?_toArray, List.getElem?_cons_succ, List.getElem?_cons_zero]; rfl) (by kernel_rfl) (by kernel_rfl) (by kernel_rfl) (by intro _ _ _ h; exact h) (Or.inl ⟨by rfl, ?_⟩) hHeld ?_
          rotate_left 1
          · intro wq hSw
            try dsimp only at hSw
            go_simp
            try (with_reducible rfl)
          try simp only [Act.put, List.setIfInBounds_toArray, List.set_cons_zero, List.set_cons_succ]
          refine wpAnyH_take (i := 8) (v := ?_) (by simp only [List.getElem?_toArray, List.getElem?_cons_succ, List.getElem?_cons_zero]; rfl) (by kernel_rfl) (by kernel_rfl) (by kernel_rfl) (by intro _ _ _ h; exact h) (Or.inl ⟨by rfl, ?_⟩) hHeld ?_
          rotate_left 1
          · intro wq hSw
            try dsimp only at hSw
            go_simp
            try (with_reducible rfl)
          try simp only [Act.put, List.setIfInBounds_toArray, List.set_cons_zero, List.set_cons_succ]
          refine wpAnyH_take (i := 9) (v := ?_) (by simp only [List.getElem?_toArray, List.getElem?_cons_succ, List.getElem?_cons_zero]; rfl) (by kernel_rfl) (by kernel_rfl) (by kernel_rfl) (by intro _ _ _ h; exact h) (Or.inl ⟨by rfl, ?_⟩) hHeld ?_
          rotate_left 1
          · intro wq hSw
            try dsimp only at hSw
            go_simp
            try (with_reducible rfl)
          try simp only [Act.put, List.setIfInBounds_toArray, List.set_cons_zero, List.set_cons_succ]
          refine wpAnyH_take (i := 10) (v := ?_) (by simp only [List.getElem?_toArray, List.getElem?_cons_succ, List.getElem?_cons_zero]; rfl) (by kernel_rfl) (by kernel_rfl) (by kernel_rfl) (by intro _ _ _ h; exact h) (Or.inl ⟨by rfl, ?_⟩) hHeld ?_
          rotate_left 1
          · intro wq hSw
            try dsimp only at hSw
            go_simp
            try (with_reducible rfl)
          try simp only [Act.put, List.setIfInBounds_toArray, List.set_cons_zero, List.set_cons_succ]
          refine wpAnyH_take (i := 11) (v := ?_) (by simp only [List.getElem?_toArray, List.getElem?_cons_succ, List.getElem?_cons_zero]; rfl) (by kernel_rfl) (by kernel_rfl) (by kernel_rfl) (by intro _ _ _ h; exact h) (Or.inl ⟨by rfl, ?_⟩) hHeld ?_
          rotate_left 1
          · intro wq hSw
            try dsimp only at hSw
            go_simp
            try (with_reducible rfl)
          try simp only [Act.put, List.setIfInBounds_toArray, List.set_cons_zero, List.set_cons_succ]
          refine wpAnyH_done (by kernel_rfl) ?_ _
          have bq := bb3.trans ((bd.trans (b4.mono bd.size)).mono (Nat.le_of_lt h3.lt))
          clear hm4 hHeld
          go_wp2_with fail
          refine (dfinish_any w4 h5 hsm).mono ?_
          rintro e w6 ⟨rfl, h6, b6⟩
          go_wp2
          go_ret
          obtain ⟨e1, e2⟩ := e0.out
          obtain ⟨e3, e4, e5⟩ := e9.out
          rw [e1, e2, e3, e4, e5]
          exact ⟨rfl, h6, bq.trans b6⟩
        by_cases hk4 : kd = 4
        · subst hk4
          have e0 : Hid (Zz = chgZs zs N clH clE ∧ Er = chgEr zs N clE) := by
            obtain ⟨h1, h2, h3, h4, h5⟩ := hall.out
            refine ⟨h4.trans ?_, h5.trans ?_⟩ <;> simp [ruZs, ruEr, goF, hc, hu, cmdZs, cmdEr]
          refine wp_region_held_drew (S := fun w' => Below w3.heap.size w3 w') (by kernel_rfl) (Below.refl _ _).drew (fun hHeld => ?_)
          try dsimp only at hHeld
          have bd : Below w3.heap.size w3 w3.drew := (Below.refl w3.heap.size w3).drew
          have h4 := h3.under bd
          generalize w3.drew = wd at *
          try simp only [Act.put, List.setIfInBounds_toArray, List.set_cons_zero, List.set_cons_succ]
          refine wpAnyH_take (i := 1) (v := ?_) (by simp only [List.getElem?_toArray, List.getElem?_cons_succ, List.getElem?_cons_zero]; rfl) (by kernel_rfl) (by kernel_rfl) (by kernel_rfl) (by intro _ _ _ h; exact h) (Or.inl ⟨by rfl, ?_⟩) hHeld ?_
          rotate_left 1
          · intro wq hSw
            try dsimp only at hSw
            go_simp
            try (with_reducible rfl)
          try simp only [Act.put, List.setIfInBounds_toArray, List.set_cons_zero, List.set_cons_succ]
          refine wpAnyH_take (i := 2) (v := ?_) (by simp only [List.getElem?_toArray, List.getElem?_cons_succ, List.getElem?_cons_zero]; rfl) (by kernel_rfl) (by kernel_rfl) (by kernel_rfl) (by intro _ _ _ h; exact h) (Or.inl ⟨by rfl, ?_⟩) hHeld ?_
          rotate_left 1
          · intro wq hSw
            try dsimp only at hSw
            go_simp
            try (with_reducible rfl)
          try simp only [Act.put, List.setIfInBounds_toArray, List.set_cons_zero, List.set_cons_succ]
          refine wpAnyH_take (i := 3) (v := ?_) (by simp only [List.getElem?_toArray, List.getElem?_cons_succ, List.getElem?_cons_zero]; rfl) (by kernel_rfl) (by kernel_rfl) (by kernel_rfl) (by intro _ _ _ h; exact h) (Or.inl ⟨by rfl, ?_⟩) hHeld ?_
          rotate_left 1
          · intro wq hSw
            try dsimp only at hSw
            go_simp
            try (with_reducible rfl)
          try simp only [Act.put, List.setIfInBounds_toArray, List.set_cons_zero, List.set_cons_succ]
          refine wpAnyH_take (i := 4) (v := ?_) (by simp only [List.getElem?_toArray, List.getElem?_cons_succ, List.getElem?_cons_zero]; rfl) (by kernel_rfl) (by kernel_rfl) (by kernel_rfl) (by intro _ _ _ h; exact h) (Or.inl ⟨by rfl, ?_⟩) hHeld ?_
          rotate_left 1
          · intro wq hSw
            try dsimp only at hSw
            go_simp
            try (with_reducible rfl)
          try simp only [Act.put, List.setIfInBounds_toArray, List.set_cons_zero, List.set_cons_succ]
          refine wpAnyH_take (i := 5) (v := ?_) (by simp only [List.getElem?_toArray, List.getElem?_cons_succ, List.getElem?_cons_zero]; rfl) (by kernel_rfl) (by kernel_rfl) (by kernel_rfl) (by intro _ _ _ h; exact h) (Or.inl ⟨by rfl, ?_⟩) hHeld ?_
          rotate_left 1
          · intro wq hSw
            try dsimp only at hSw
            obtain ⟨x0, x1, x2, x3, x4, x5, x6, x7, _⟩ := (h3.blk.under hSw).eight
            go_simp
            try (with_reducible rfl)
          try simp only [Act.put, List.setIfInBounds_toArray, List.set_cons_zero, List.set_cons_succ]
          refine wpAnyH_ready (rs := [0]) (by kernel_rfl) (by simp) ?_
          refine AllReadyH.cons (by simp only [List.getElem?_toArray, List.getElem?_cons_zero]; rfl) (fun K hK => ?_) AllReadyH.nil
          have hC := dcommands_any wd
          go_simp
          refine hC.mono ?_
          clear hC
          rintro e w4 ⟨rfl, hw4⟩
          have b4 : Below wd.heap.size wd w4 := by rw [hw4]; exact (Below.refl _ _).alloc (Nat.le_refl _) _
          have hm4 : w4.heap[wd.heap.size]? = some (.map cmdES 5) := by rw [hw4]; exact (MapKept.heap_alloc wd _).1
          clear hw4
          go_wp2_with fail
          refine hK.out _ _ (bd.trans (b4.mono bd.size)) (fun _ => wpAnyH_stronger (S' := fun w' => Below w4.heap.size w4 w') (fun w' h => Below.trans (bd.trans (b4.mono bd.size)) (h.mono (Nat.le_trans bd.size b4.size))) _ _ _ _ ?_)
          clear hK K hHeld
          have hHeld := Below.refl w4.heap.size w4
          have h5 := h4.under b4
          try simp only [Act.put, List.setIfInBounds_toArray, List.set_cons_zero, List.set_cons_succ]
          refine wpAnyH_take (i := 6) (v := ?_) (by simp only [List.getElem?_toArray, List.getElem?_cons_succ, List.getElem?_cons_zero]; rfl) (by kernel_rfl) (by kernel_rfl) (by kernel_rfl) (by intro _ _ _ h; exact h) (Or.inl ⟨by rfl, ?_⟩) hHeld ?_
          rotate_left 1
          · intro wq hSw
            try dsimp only at hSw
            have hmq := (hSw.block _ (Array.getElem?_eq_some_iff.1 hm4).1).trans hm4
            have hlk := run_lookm wq _ cmdES 5 4 hmq 3 (.func (.func 76) #[] #[]) rfl
            go_simp
            try (with_reducible rfl)
          try simp only [Act.put, List.setIfInBounds_toArray, List.set_cons_zero, List.set_cons_succ]
          refine wpAnyH_take (i := 7) (v := ?_) (by simp only [List.getElem?_toArray, List.getElem?_cons_succ, List.getElem?_cons_zero]; rfl) (by kernel_rfl) (by kernel_rfl) (by kernel_rfl) (by intro _ _ _ h; exact h) (Or.inl ⟨by rfl, ?_⟩) hHeld ?_
          rotate_left 1
          · intro wq hSw
            try dsimp only at hSw
            go_simp
            try (with_reducible rfl)
          try simp only [Act.put, List.setIfInBounds_toArray, List.set_cons_zero, List.set_cons_succ]
          refine wpAnyH_take (i := 8) (v := ?_) (by simp only [List.getElem?_toArray, List.getElem?_cons_succ, List.getElem?_cons_zero]; rfl) (by kernel_rfl) (by kernel_rfl) (by kernel_rfl) (by intro _ _ _ h; exact h) (Or.inl ⟨by rfl, ?_⟩) hHeld ?_
          rotate_left 1
          · intro wq hSw
            try dsimp only at hSw
            go_simp
            try (with_reducible rfl)
          try simp only [Act.put, List.setIfInBounds_toArray, List.set_cons_zero, List.set_cons_succ]
          refine wpAnyH_take (i := 9) (v := ?_) (by simp only [List.getElem?_toArray, List.getElem?_cons_succ, List.getElem?_cons_zero]; rfl) (by kernel_rfl) (by kernel_rfl) (by kernel_rfl) (by intro _ _ _ h; exact h) (Or.inl ⟨by rfl, ?_⟩) hHeld ?_
          rotate_left 1
          · intro wq hSw
            try dsimp only at hSw
            go_simp
            try (with_reducible rfl)
          try simp only [Act.put, List.setIfInBounds_toArray, List.set_cons_zero, List.set_cons_succ]
          refine wpAnyH_take (i := 10) (v := ?_) (by simp only [List.getElem?_toArray, List.getElem?_cons_succ, List.getElem?_cons_zero]; rfl) (by kernel_rfl) (by kernel_rfl) (by kernel_rfl) (by intro _ _ _ h; exact h) (Or.inl ⟨by rfl, ?_⟩) hHeld ?_
          rotate_left 1
          · intro wq hSw
            try dsimp only at hSw
            go_simp
            try (with_reducible rfl)
          try simp only [Act.put, List.setIfInBounds_toArray, List.set_cons_zero, List.set_cons_succ]
          refine wpAnyH_take (i := 11) (v := ?_) (by simp only [List.getElem?_toArray, List.getElem?_cons_succ, List.getElem?_cons_zero]; rfl) (by kernel_rfl) (by kernel_rfl) (by kernel_rfl) (by intro _ _ _ h; exact h) (Or.inl ⟨by rfl, ?_⟩) hHeld ?_
          rotate_left 1
          · intro wq hSw
            try dsimp only at hSw
            go_simp
            try (with_reducible rfl)
          try simp only [Act.put, List.setIfInBounds_toArray, List.set_cons_zero, List.set_cons_succ]
          refine wpAnyH_done (by kernel_rfl) ?_ _
          have bq := bb3.trans ((bd.trans (b4.mono bd.size)).mono (Nat.le_of_lt h3.lt))
          clear hm4 hHeld
          go_wp2_with fail
          refine (dclose_any w4 h5 hsm).mono ?_
          rintro e w6 ⟨rfl, h6, b6⟩
          go_wp2
          go_ret
          obtain ⟨e1, e2⟩ := e0.out
          obtain ⟨e3, e4, e5⟩ := e9.out
          rw [e1, e2, e3, e4, e5]
          exact ⟨rfl, h6, bq.trans b6⟩
        by_cases hk5 : kd = 5
        · subst hk5
          have e0 : Hid (Zz = zs.map fsZ ∧ Er = 0) := by
            obtain ⟨h1, h2, h3, h4, h5⟩ := hall.out
            refine ⟨h4.trans ?_, h5.trans ?_⟩ <;> simp [ruZs, ruEr, goF, hc, hu, cmdZs, cmdEr]
          refine wp_region_held_drew (S := fun w' => Below w3.heap.size w3 w') (by kernel_rfl) (Below.refl _ _).drew (fun hHeld => ?_)
          try dsimp only at hHeld
          have bd : Below w3.heap.size w3 w3.drew := (Below.refl w3.heap.size w3).drew
          have h4 := h3.under bd
          generalize w3.drew = wd at *
          try simp only [Act.put, List.setIfInBounds_toArray, List.set_cons_zero, List.set_cons_succ]
          refine wpAnyH_take (i := 1) (v := ?_) (by simp only [List.getElem?_toArray, List.getElem?_cons_succ, List.getElem?_cons_zero]; rfl) (by kernel_rfl) (by kernel_rfl) (by kernel_rfl) (by intro _ _ _ h; exact h) (Or.inl ⟨by rfl, ?_⟩) hHeld ?_
          rotate_left 1
          · intro wq hSw
            try dsimp only at hSw
            go_simp
            try (with_reducible rfl)
          try simp only [Act.put, List.setIfInBounds_toArray, List.set_cons_zero, List.set_cons_succ]
          refine wpAnyH_take (i := 2) (v := ?_) (by simp only [List.getElem?_toArray, List.getElem?_cons_succ, List.getElem?_cons_zero]; rfl) (by kernel_rfl) (by kernel_rfl) (by kernel_rfl) (by intro _ _ _ h; exact h) (Or.inl ⟨by rfl, ?_⟩) hHeld ?_
          rotate_left 1
          · intro wq hSw
            try dsimp only at hSw
            go_simp
            try (with_reducible rfl)
          try simp only [Act.put, List.setIfInBounds_toArray, List.set_cons_zero, List.set_cons_succ]
          refine wpAnyH_take (i := 3) (v := ?_) (by simp only [List.getElem?_toArray, List.getElem?_cons_succ, List.getElem?_cons_zero]; rfl) (by kernel_rfl) (by kernel_rfl) (by kernel_rfl) (by intro _ _ _ h; exact h) (Or.inl ⟨by rfl, ?_⟩) hHeld ?_
          rotate_left 1
          · intro wq hSw
            try dsimp only at hSw
            go_simp
            try (with_reducible rfl)
          try simp only [Act.put, List.setIfInBounds_toArray, List.set_cons_zero, List.set_cons_succ]
          refine wpAnyH_take (i := 4) (v := ?_) (by simp only [List.getElem?_toArray, List.getElem?_cons_succ, List.getElem?_cons_zero]; rfl) (by kernel_rfl) (by kernel_rfl) (by kernel_rfl) (by intro _ _ _ h; exact h) (Or.inl ⟨by rfl, ?_⟩) hHeld ?_
          rotate_left 1
          · intro wq hSw
            try dsimp only at hSw
            go_simp
            try (with_reducible rfl)
          try simp only [Act.put, List.setIfInBounds_toArray, List.set_cons_zero, List.set_cons_succ]
          refine wpAnyH_take (i := 5) (v := ?_) (by simp only [List.getElem?_toArray, List.getElem?_cons_succ, List.getElem?_cons_zero]; rfl) (by kernel_rfl) (by kernel_rfl) (by kernel_rfl) (by intro _ _ _ h; exact h) (Or.inl ⟨by rfl, ?_⟩) hHeld ?_
          rotate_left 1
          · intro wq hSw
            try dsimp only at hSw
            obtain ⟨x0, x1, x2, x3, x4, x5, x6, x7, _⟩ := (h3.blk.under hSw).eight
            go_simp
            try (with_reducible rfl)
          try simp only [Act.put, List.setIfInBounds_toArray, List.set_cons_zero, List.set_cons_succ]
          refine wpAnyH_ready (rs := [0]) (by kernel_rfl) (by simp) ?_
          refine AllReadyH.cons (by simp only [List.getElem?_toArray, List.getElem?_cons_zero]; rfl) (fun K hK => ?_) AllReadyH.nil
          have hC := dcommands_any wd
          go_simp
          refine hC.mono ?_
          clear hC
          rintro e w4 ⟨rfl, hw4⟩
          have b4 : Below wd.heap.size wd w4 := by rw [hw4]; exact (Below.refl _ _).alloc (Nat.le_refl _) _
          have hm4 : w4.heap[wd.heap.size]? = some (.map cmdES 5) := by rw [hw4]; exact (MapKept.heap_alloc wd _).1
          clear hw4
          go_wp2_with fail
          refine hK.out _ _ (bd.trans (b4.mono bd.size)) (fun _ => wpAnyH_stronger (S' := fun w' => Below w4.heap.size w4 w') (fun w' h => Below.trans (bd.trans (b4.mono bd.size)) (h.mono (Nat.le_trans bd.size b4.size))) _ _ _ _ ?_)
          clear hK K hHeld
          have hHeld := Below.refl w4.heap.size w4
          have h5 := h4.under b4
          try simp only [Act.put, List.setIfInBounds_toArray, List.set_cons_zero, List.set_cons_succ]
          refine wpAnyH_take (i := 6) (v := ?_) (by simp only [List.getElem?_toArray, List.getElem?_cons_succ, List.getElem?_cons_zero]; rfl) (by kernel_rfl) (by kernel_rfl) (by kernel_rfl) (by intro _ _ _ h; exact h) (Or.inl ⟨by rfl, ?_⟩) hHeld ?_
          rotate_left 1
          · intro wq hSw
            try dsimp only at hSw
            have hmq := (hSw.block _ (Array.getElem?_eq_some_iff.1 hm4).1).trans hm4
            have hlk := run_lookm wq _ cmdES 5 5 hmq 4 (.func (.func 77) #[] #[]) rfl
            go_simp
            try (with_reducible rfl)
          try simp only [Act.put, List.setIfInBounds_toArray, List.set_cons_zero, List.set_cons_succ]
          refine wpAnyH_take (i := 7) (v := ?_) (by simp only [List.getElem?_toArray, List.getElem?_cons_succ, List.getElem?_cons_zero]; rfl) (by kernel_rfl) (by kernel_rfl) (by kernel_rfl) (by intro _ _ _ h; exact h) (Or.inl ⟨by rfl, ?_⟩) hHeld ?_
          rotate_left 1
          · intro wq hSw
            try dsimp only at hSw
            go_simp
            try (with_reducible rfl)
          try simp only [Act.put, List.setIfInBounds_toArray, List.set_cons_zero, List.set_cons_succ]
          refine wpAnyH_take (i := 8) (v := ?_) (by simp only [List.getElem?_toArray, List.getElem?_cons_succ, List.getElem?_cons_zero]; rfl) (by kernel_rfl) (by kernel_rfl) (by kernel_rfl) (by intro _ _ _ h; exact h) (Or.inl ⟨by rfl, ?_⟩) hHeld ?_
          rotate_left 1
          · intro wq hSw
            try dsimp only at hSw
            go_simp
            try (with_reducible rfl)
          try simp only [Act.put, List.setIfInBounds_toArray, List.set_cons_zero, List.set_cons_succ]
          refine wpAnyH_take (i := 9) (v := ?_) (by simp only [List.getElem?_toArray, List.getElem?_cons_succ, List.getElem?_cons_zero]; rfl) (by kernel_rfl) (by kernel_rfl) (by kernel_rfl) (by intro _ _ _ h; exact h) (Or.inl ⟨by rfl, ?_⟩) hHeld ?_
          rotate_left 1
          · intro wq hSw
            try dsimp only at hSw
            go_simp
            try (with_reducible rfl)
          try simp only [Act.put, List.setIfInBounds_toArray, List.set_cons_zero, List.set_cons_succ]
          refine wpAnyH_take (i := 10) (v := ?_) (by simp only [List.getElem?_toArray, List.getElem?_cons_succ, List.getElem?_cons_zero]; rfl) (by kernel_rfl) (by kernel_rfl) (by kernel_rfl) (by intro _ _ _ h; exact h) (Or.inl ⟨by rfl, ?_⟩) hHeld ?_
          rotate_left 1
          · intro wq hSw
            try dsimp only at hSw
            go_simp
            try (with_reducible rfl)
          try simp only [Act.put, List.setIfInBounds_toArray, List.set_cons_zero, List.set_cons_succ]
          refine wpAnyH_take (i := 11) (v := ?_) (by simp only [List.getElem?_toArray, List.getElem?_cons_succ, List.getElem?_cons_zero]; rfl) (by kernel_rfl) (by kernel_rfl) (by kernel_rfl) (by intro _ _ _ h; exact h) (Or.inl ⟨by rfl, ?_⟩) hHeld ?_
          rotate_left 1
          · intro wq hSw
            try dsimp only at hSw
            go_simp
            try (with_reducible rfl)
          try simp only [Act.put, List.setIfInBounds_toArray, List.set_cons_zero, List.set_cons_succ]
          refine wpAnyH_done (by kernel_rfl) ?_ _
          have bq := bb3.trans ((bd.trans (b4.mono bd.size)).mono (Nat.le_of_lt h3.lt))
          clear hm4 hHeld
          go_wp2_with fail
          refine (dflush_any w4 h5 hsm).mono ?_
          rintro e w6 ⟨rfl, h6, b6⟩
          go_wp2
          go_ret
          obtain ⟨e1, e2⟩ := e0.out
          obtain ⟨e3, e4, e5⟩ := e9.out
          rw [e1, e2, e3, e4, e5]
          exact ⟨rfl, h6, bq.trans b6⟩
        have e0 : Hid (Zz = zs ∧ Er = 1) := by
          obtain ⟨h1, h2, h3, h4, h5⟩ := hall.out
          refine ⟨h4.trans ?_, h5.trans ?_⟩ <;> simp [ruZs, ruEr, goF, hc, hu, cmdZs, cmdEr, hk1, hk2, hk3, hk4, hk5]
        have hno := find_no kd (by simpa using hk1) (by simpa using hk2) (by simpa using hk3) (by simpa using hk4) (by simpa using hk5)
        refine wp_region_held_drew (S := fun w' => Below w3.heap.size w3 w') (by kernel_rfl) (Below.refl _ _).drew (fun hHeld => ?_)
        try dsimp only at hHeld
        have bd : Below w3.heap.size w3 w3.drew := (Below.refl w3.heap.size w3).drew
        have h4 := h3.under bd
        generalize w3.drew = wd at *
        try simp only [Act.put, List.setIfInBounds_toArray, List.set_cons_zero, List.set_cons_succ]
        refine wpAnyH_take (i := 1) (v := ?_) (by simp only [List.getElem?_toArray, List.getElem?_cons_succ, List.getElem?_cons_zero]; rfl) (by kernel_rfl) (by kernel_rfl) (by kernel_rfl) (by intro _ _ _ h; exact h) (Or.inl ⟨by rfl, ?_⟩) hHeld ?_
        rotate_left 1
        · intro wq hSw
          try dsimp only at hSw
          go_simp
          try (with_reducible rfl)
        try simp only [Act.put, List.setIfInBounds_toArray, List.set_cons_zero, List.set_cons_succ]
        refine wpAnyH_take (i := 2) (v := ?_) (by simp only [List.getElem?_toArray, List.getElem?_cons_succ, List.getElem?_cons_zero]; rfl) (by kernel_rfl) (by kernel_rfl) (by kernel_rfl) (by intro _ _ _ h; exact h) (Or.inl ⟨by rfl, ?_⟩) hHeld ?_
        rotate_left 1
        · intro wq hSw
          try dsimp only at hSw
          go_simp
          try (with_reducible rfl)
        try simp only [Act.put, List.setIfInBounds_toArray, List.set_cons_zero, List.set_cons_succ]
        refine wpAnyH_take (i := 3) (v := ?_) (by simp only [List.getElem?_toArray, List.getElem?_cons_succ, List.getElem?_cons_zero]; rfl) (by kernel_rfl) (by kernel_rfl) (by kernel_rfl) (by intro _ _ _ h; exact h) (Or.inl ⟨by rfl, ?_⟩) hHeld ?_
        rotate_left 1
        · intro wq hSw
          try dsimp only at hSw
          go_simp
          try (with_reducible rfl)
        try simp only [Act.put, List.setIfInBounds_toArray, List.set_cons_zero, List.set_cons_succ]
        refine wpAnyH_take (i := 4) (v := ?_) (by simp only [List.getElem?_toArray, List.getElem?_cons_succ, List.getElem?_cons_zero]; rfl) (by kernel_rfl) (by kernel_rfl) (by kernel_rfl) (by intro _ _ _ h; exact h) (Or.inl ⟨by rfl, ?_⟩) hHeld ?_
        rotate_left 1
        · intro wq hSw
          try dsimp only at hSw
          go_simp
          try (with_reducible rfl)
        try simp only [Act.put, List.setIfInBounds_toArray, List.set_cons_zero, List.set_cons_succ]
        refine wpAnyH_take (i := 5) (v := ?_) (by simp only [List.getElem?_toArray, List.getElem?_cons_succ, List.getElem?_cons_zero]; rfl) (by kernel_rfl) (by kernel_rfl) (by kernel_rfl) (by intro _ _ _ h; exact h) (Or.inl ⟨by rfl, ?_⟩) hHeld ?_
        rotate_left 1
        · intro wq hSw
          try dsimp only at hSw
          obtain ⟨x0, x1, x2, x3, x4, x5, x6, x7, _⟩ := (h3.blk.under hSw).eight
          go_simp
          try (with_reducible rfl)
        try simp only [Act.put, List.setIfInBounds_toArray, List.set_cons_zero, List.set_cons_succ]
        refine wpAnyH_ready (rs := [0]) (by kernel_rfl) (by simp) ?_
        refine AllReadyH.cons (by simp only [List.getElem?_toArray, List.getElem?_cons_zero]; rfl) (fun K hK => ?_) AllReadyH.nil
        have hC := dcommands_any wd
        go_simp
        refine hC.mono ?_
        clear hC
        rintro e w4 ⟨rfl, hw4⟩
        have b4 : Below wd.heap.size wd w4 := by rw [hw4]; exact (Below.refl _ _).alloc (Nat.le_refl _) _
        have hm4 : w4.heap[wd.heap.size]? = some (.map cmdES 5) := by rw [hw4]; exact (MapKept.heap_alloc wd _).1
        clear hw4
        go_wp2_with fail
        refine hK.out _ _ (bd.trans (b4.mono bd.size)) (fun _ => wpAnyH_stronger (S' := fun w' => Below w4.heap.size w4 w') (fun w' h => Below.trans (bd.trans (b4.mono bd.size)) (h.mono (Nat.le_trans bd.size b4.size))) _ _ _ _ ?_)
        clear hK K hHeld
        have hHeld := Below.refl w4.heap.size w4
        have h5 := h4.under b4
        try simp only [Act.put, List.setIfInBounds_toArray, List.set_cons_zero, List.set_cons_succ]
        refine wpAnyH_take (i := 6) (v := ?_) (by simp only [List.getElem?_toArray, List.getElem?_cons_succ, List.getElem?_cons_zero]; rfl) (by kernel_rfl) (by kernel_rfl) (by kernel_rfl) (by intro _ _ _ h; exact h) (Or.inl ⟨by rfl, ?_⟩) hHeld ?_
        rotate_left 1
        · intro wq hSw
          try dsimp only at hSw
          have hmq := (hSw.block _ (Array.getElem?_eq_some_iff.1 hm4).1).trans hm4
          have hlk := run_lookm_no wq _ cmdES 5 kd hmq hno
          go_simp
          try (with_reducible rfl)
        try simp only [Act.put, List.setIfInBounds_toArray, List.set_cons_zero, List.set_cons_succ]
        refine wpAnyH_take (i := 7) (v := ?_) (by simp only [List.getElem?_toArray, List.getElem?_cons_succ, List.getElem?_cons_zero]; rfl) (by kernel_rfl) (by kernel_rfl) (by kernel_rfl) (by intro _ _ _ h; exact h) (Or.inl ⟨by rfl, ?_⟩) hHeld ?_
        rotate_left 1
        · intro wq hSw
          try dsimp only at hSw
          go_simp
          try (with_reducible rfl)
        try simp only [Act.put, List.setIfInBounds_toArray, List.set_cons_zero, List.set_cons_succ]
        refine wpAnyH_take (i := 8) (v := ?_) (by simp only [List.getElem?_toArray, List.getElem?_cons_succ, List.getElem?_cons_zero]; rfl) (by kernel_rfl) (by kernel_rfl) (by kernel_rfl) (by intro _ _ _ h; exact h) (Or.inl ⟨by rfl, ?_⟩) hHeld ?_
        rotate_left 1
        · intro wq hSw
          try dsimp only at hSw
          go_simp
          try (with_reducible rfl)
        try simp only [Act.put, List.setIfInBounds_toArray, List.set_cons_zero, List.set_cons_succ]
        refine wpAnyH_take (i := 9) (v := ?_) (by simp only [List.getElem?_toArray, List.getElem?_cons_succ, List.getElem?_cons_zero]; rfl) (by kernel_rfl) (by kernel_rfl) (by kernel_rfl) (by intro _ _ _ h; exact h) (Or.inl ⟨by rfl, ?_⟩) hHeld ?_
        rotate_left 1
        · intro wq hSw
          try dsimp only at hSw
          go_simp
          try (with_reducible rfl)
        try simp only [Act.put, List.setIfInBounds_toArray, List.set_cons_zero, List.set_cons_succ]
        refine wpAnyH_take (i := 10) (v := ?_) (by simp only [List.getElem?_toArray, List.getElem?_cons_succ, List.getElem?_cons_zero]; rfl) (by kernel_rfl) (by kernel_rfl) (by kernel_rfl) (by intro _ _ _ h; exact h) (Or.inl ⟨by rfl, ?_⟩) hHeld ?_
        rotate_left 1
        · intro wq hSw
          try dsimp only at hSw
          go_simp
          try (with_reducible rfl)
        try simp only [Act.put, List.setIfInBounds_toArray, List.set_cons_zero, List.set_cons_succ]
        refine wpAnyH_take (i := 11) (v := ?_) (by simp only [List.getElem?_toArray, List.getElem?_cons_succ, List.getElem?_cons_zero]; rfl) (by kernel_rfl) (by kernel_rfl) (by kernel_rfl) (by intro _ _ _ h; exact h) (Or.inl ⟨by rfl, ?_⟩) hHeld ?_
        rotate_left 1
        · intro wq hSw
          try dsimp only at hSw
          go_simp
          try (with_reducible rfl)
        try simp only [Act.put, List.setIfInBounds_toArray, List.set_cons_zero, List.set_cons_succ]
        refine wpAnyH_done (by kernel_rfl) ?_ _
        have bq := bb3.trans ((bd.trans (b4.mono bd.size)).mono (Nat.le_of_lt h3.lt))
        clear hm4 hHeld hno
        go_wp2
        go_ret
        obtain ⟨e1, e2⟩ := e0.out
        obtain ⟨e3, e4, e5⟩ := e9.out
        rw [e1, e2, e3, e4, e5]
        exact h5.post 1 bq


end Go.Proofs.YtnejiclghnigiaaDoor
namespace Go.Proofs.YtnejiclghnigiaaDoor
open Go.RowKit Go.Wag
set_option linter.unusedVariables false
set_option maxRecDepth 20000

/-- A device behind a command. -/
def DoPost (w : World) (size lf dn : Int) (dw : Bool) (zs : List Zp) (kd N : Int) (b : List UInt8) : Ending → World → Prop :=
  DevErr w size (ruLf size lf dw zs) (ruDn size lf dn dw zs) (ruDw size lf dw zs) (ruZs size lf dw zs kd N b) (ruEr size lf dw zs kd N b)

set_option maxRecDepth 20000 in
set_option maxHeartbeats 1000000 in
theorem dDo_any {F : Nat → Prop} (size lf dn : Int) (dw : Bool) (A : Option Addr) (n c : Nat) (zs : List Zp) (kd N : Int) (Ad : Option Addr) (nd cd : Nat) (b : List UInt8) (w : World) (h : Zs F w A n c zs) (hsm : Sm zs) (hs : Sl w Ad nd cd (b.map v8)) (hnd : nd ≤ 10000) (hlf : lf < 9223372036854775808) :
    Calls Tryd.prog 25 #[.agg #[.int .i64 size, .slice A n c, .int .i64 lf, .bool dw, .int .i64 dn], .agg #[.int .i64 kd, .int .i64 N, .slice Ad nd cd]] w (DoPost w size lf dn dw zs kd N b) := by
  have B0 := ((Blk.new w #[.int .i64 size, .slice A n c, .int .i64 lf, .bool dw, .int .i64 dn] 36).alloc (.cells #[.int .i64 kd, .int .i64 N, .slice Ad nd cd] 60)).alloc (.cells #[.int .i64 0, .slice none 0 0, .int .i64 0, .bool false, .int .i64 0] 36)
  have B1 := (Blk.new (w.alloc (.cells #[.int .i64 size, .slice A n c, .int .i64 lf, .bool dw, .int .i64 dn] 36)) #[.int .i64 kd, .int .i64 N, .slice Ad nd cd] 60).alloc (.cells #[.int .i64 0, .slice none 0 0, .int .i64 0, .bool false, .int .i64 0] 36)
  have B2 := Blk.new ((w.alloc (.cells #[.int .i64 size, .slice A n c, .int .i64 lf, .bool dw, .int .i64 dn] 36)).alloc (.cells #[.int .i64 kd, .int .i64 N, .slice Ad nd cd] 60)) #[.int .i64 0, .slice none 0 0, .int .i64 0, .bool false, .int .i64 0] 36
  have b0 := (((Below.refl w.heap.size w).alloc (Nat.le_refl _) (.cells #[.int .i64 size, .slice A n c, .int .i64 lf, .bool dw, .int .i64 dn] 36)).alloc (by simp) (.cells #[.int .i64 kd, .int .i64 N, .slice Ad nd cd] 60)).alloc (by simp; omega) (.cells #[.int .i64 0, .slice none 0 0, .int .i64 0, .bool false, .int .i64 0] 36)
  have hs0 : (((w.alloc (.cells #[.int .i64 size, .slice A n c, .int .i64 lf, .bool dw, .int .i64 dn] 36)).alloc (.cells #[.int .i64 kd, .int .i64 N, .slice Ad nd cd] 60)).alloc (.cells #[.int .i64 0, .slice none 0 0, .int .i64 0, .bool false, .int .i64 0] 36)).heap.size = w.heap.size + 3 := by simp
  simp only [World.size_alloc] at B1 B2
  have hAd : 0 < nd → ∀ ad, Ad = some ad → ad.block < w.heap.size := fun hn ad e => by
    obtain ⟨ad', e', hb, _⟩ := hs.cells hn
    cases e.symm.trans e'
    exact hb
  replace h := h.below b0
  replace hs := hs.below b0
  go_enter Tryd.func25, Tryd.ntmps25
  go_wp2_with fail
  generalize (((w.alloc (.cells #[.int .i64 size, .slice A n c, .int .i64 lf, .bool dw, .int .i64 dn] 36)).alloc (.cells #[.int .i64 kd, .int .i64 N, .slice Ad nd cd] 60)).alloc (.cells #[.int .i64 0, .slice none 0 0, .int .i64 0, .bool false, .int .i64 0] 36)) = w0 at *
  refine wp_region_held_drew (S := fun w' => Below w0.heap.size w0 w') (by kernel_rfl) (Below.refl _ _).drew (fun hHeld => ?_)
  try dsimp only at hHeld
  have bd : Below w0.heap.size w0 w0.drew := (Below.refl w0.heap.size w0).drew
  generalize w0.drew = wd at *
  try simp only [Act.put, List.setIfInBounds_toArray, List.set_cons_zero, List.set_cons_succ]
  refine wpAnyH_take (i := 0) (v := ?_) (by simp only [List.getElem?_toArray, List.getElem?_cons_zero]; rfl) (by kernel_rfl) (by kernel_rfl) (by kernel_rfl) (by intro _ _ _ h; exact h) (Or.inl ⟨by rfl, ?_⟩) hHeld ?_
  rotate_left 1
  · intro wq hSw
    try dsimp only at hSw
    obtain ⟨x0, x1, x2, x3, x4, _⟩ := (B0.under hSw).five
    go_simp
    try (with_reducible rfl)
  try simp only [Act.put, List.setIfInBounds_toArray, List.set_cons_zero, List.set_cons_succ]
  refine wpAnyH_take (i := 2) (v := ?_) (by simp only [List.getElem?_toArray, List.getElem?_cons_succ, List.getElem?_cons_zero]; rfl) (by kernel_rfl) (by kernel_rfl) (by kernel_rfl) (by intro _ _ _ h; exact h) (Or.inl ⟨by rfl, ?_⟩) hHeld ?_
  rotate_left 1
  · intro wq hSw
    try dsimp only at hSw
    obtain ⟨x0, x1, x2, _⟩ := (B1.under hSw).three
    go_simp
    try (with_reducible rfl)
  try simp only [Act.put, List.setIfInBounds_toArray, List.set_cons_zero, List.set_cons_succ]
  refine wpAnyH_ready (rs := [1]) (by kernel_rfl) (by simp) ?_
  refine AllReadyH.cons (by simp only [List.getElem?_toArray, List.getElem?_cons_succ, List.getElem?_cons_zero]; rfl) (fun K hK => ?_) AllReadyH.nil
  have hC := dcopied_any size lf dn dw A n c zs wd (h.below bd) hsm
  go_simp
  refine hC.mono ?_
  clear hC
  rintro e w4 ⟨g, rfl, Z4, b4⟩
  go_wp2_with fail
  refine hK.out _ _ (bd.trans (b4.mono bd.size)) (fun hHeld => ?_)
  clear hK K
  try dsimp only at hHeld
  try simp only [Act.put, List.setIfInBounds_toArray, List.set_cons_zero, List.set_cons_succ]
  refine wpAnyH_take (i := 3) (v := ?_) (by simp only [List.getElem?_toArray, List.getElem?_cons_succ, List.getElem?_cons_zero]; rfl) (by kernel_rfl) (by kernel_rfl) (by kernel_rfl) (by intro _ _ _ h; exact h) (Or.inl ⟨by rfl, ?_⟩) hHeld ?_
  rotate_left 1
  · intro wq hSw
    try dsimp only at hSw
    go_simp
    try (with_reducible rfl)
  try simp only [Act.put, List.setIfInBounds_toArray, List.set_cons_zero, List.set_cons_succ]
  refine wpAnyH_ready (rs := [4]) (by kernel_rfl) (by simp) ?_
  refine AllReadyH.cons (by simp only [List.getElem?_toArray, List.getElem?_cons_succ, List.getElem?_cons_zero]; rfl) (fun K hK => ?_) AllReadyH.nil
  obtain ⟨kw, hkw⟩ : ∃ k, w4.heap.size = k := ⟨_, rfl⟩
  have B4 := Blk.new w4 #[.int .i64 size, .slice (some ⟨g, 0, none⟩) zs.length zs.length, .int .i64 lf, .bool dw, .int .i64 dn, .int .i64 kd, .int .i64 N, .slice Ad nd cd] 91
  rw [hkw] at B4
  go_simp
  try simp only [hkw]
  refine hK.out _ _ ((bd.trans (b4.mono bd.size)).alloc (Nat.le_trans bd.size b4.size) _) (fun hHeld => ?_)
  clear hK K
  try dsimp only at hHeld
  try simp only [Act.put, List.setIfInBounds_toArray, List.set_cons_zero, List.set_cons_succ]
  refine wpAnyH_take (i := 5) (v := ?_) (by simp only [List.getElem?_toArray, List.getElem?_cons_succ, List.getElem?_cons_zero]; rfl) (by kernel_rfl) (by kernel_rfl) (by kernel_rfl) (by intro _ _ _ h; exact h) (Or.inl ⟨by rfl, ?_⟩) hHeld ?_
  rotate_left 1
  · intro wq hSw
    try dsimp only at hSw
    go_simp
    try (with_reducible rfl)
  try simp only [Act.put, List.setIfInBounds_toArray, List.set_cons_zero, List.set_cons_succ]
  refine wpAnyH_done (by kernel_rfl) ?_ _
  have hz4 := b4.size
  have hzd := bd.size
  have bA := bd.trans (b4.mono bd.size)
  have b5 : Below (w.heap.size + 3) w0 w4 := bA.mono (by omega)
  have HK : Wk (w.heap.size + 3) kw g (w4.alloc (.cells #[.int .i64 size, .slice (some ⟨g, 0, none⟩) zs.length zs.length, .int .i64 lf, .bool dw, .int .i64 dn, .int .i64 kd, .int .i64 N, .slice Ad nd cd] 91)) size lf dn dw zs kd N Ad nd cd b :=
    ⟨B4, (Z4.toZf (fun b hb hd => ⟨by omega, by omega⟩)).alloc _, (hs.below bA).alloc _, fun hn ad e => by have := hAd hn ad e; omega, by omega⟩
  have b6 : Below (w.heap.size + 3) w0 (w4.alloc (.cells #[.int .i64 size, .slice (some ⟨g, 0, none⟩) zs.length zs.length, .int .i64 lf, .bool dw, .int .i64 dn, .int .i64 kd, .int .i64 N, .slice Ad nd cd] 91)) := b5.alloc (by omega) _
  have b7 : Below w.heap.size w (w4.alloc (.cells #[.int .i64 size, .slice (some ⟨g, 0, none⟩) zs.length zs.length, .int .i64 lf, .bool dw, .int .i64 dn, .int .i64 kd, .int .i64 N, .slice Ad nd cd] 91)) := (b0.trans (bA.mono (by omega))).alloc (by omega) _
  clear hHeld b4 Z4 B4 b5 bA
  generalize w4.alloc (.cells #[.int .i64 size, .slice (some ⟨g, 0, none⟩) zs.length zs.length, .int .i64 lf, .bool dw, .int .i64 dn, .int .i64 kd, .int .i64 N, .slice Ad nd cd] 91) = w5 at *
  go_wp2_with fail
  refine (drun_any w5 HK hsm hnd hlf).mono ?_
  rintro e w6 ⟨rfl, ⟨g6, h6⟩, b8⟩
  have B6 := B2.below (b6.trans b8) (by omega)
  have b9 := b7.trans (b8.mono (by omega))
  have hkk := h6.at_
  obtain ⟨p0, p1, p2, p3, p4, p5, p6, p7, _⟩ := h6.blk.eight
  obtain ⟨r0, r1, r2, r3, r4, g0, g1, g2, g3, g4⟩ := B6.five
  have hz6 : Zo (w.heap.size + 3) 56 w6 g6 (ruZs size lf dw zs kd N b) := h6.zf.toZo (fun b _ hb => hb.1)
  go_wp2
  try simp only [Exit.inBlock, Exit.then]
  unfold DoPost
  exact ret_dev2 rfl rfl rfl B6 hz6 rfl (by omega) (by omega) b9
end Go.Proofs.YtnejiclghnigiaaDoor
namespace Go.Proofs.YtnejiclghnigiaaDoor
open Go.RowKit Go.Wag
set_option linter.unusedVariables false
set_option maxRecDepth 20000

/-- A device in memory of its own, of m zones, with an error beside it, or alone. -/
def DE (w : World) (size lf dn : Int) (dw : Bool) (zs : List Zp) (er : Int) (m : Nat) (e : Ending) (w' : World) : Prop :=
  ∃ A, e = .returned (.tuple #[.agg #[.int .i64 size, .slice A m m, .int .i64 lf, .bool dw, .int .i64 dn], .int .i64 er]) ∧ Zs (fun b => w.heap.size ≤ b) w' A m m zs ∧ Below w.heap.size w w'
def DN (w : World) (size lf dn : Int) (dw : Bool) (zs : List Zp) (m : Nat) (e : Ending) (w' : World) : Prop :=
  ∃ A, e = .returned (.agg #[.int .i64 size, .slice A m m, .int .i64 lf, .bool dw, .int .i64 dn]) ∧ Zs (fun b => w.heap.size ≤ b) w' A m m zs ∧ Below w.heap.size w w'
theorem DevErr.at_ {w : World} {size lf dn : Int} {dw : Bool} {zs : List Zp} {er : Int} {m : Nat} (hm : zs.length = m) (h1 : m ≤ 100) (e : Ending) (w' : World) (h : DevErr w size lf dn dw zs er e w') : DE w size lf dn dw zs er m e w' := by
  obtain ⟨g, rfl, hz, hb⟩ := h
  subst hm
  exact ⟨_, rfl, hz.toZs h1, hb⟩
theorem DevNew.at_ {w : World} {size lf dn : Int} {dw : Bool} {zs : List Zp} {m : Nat} (hm : zs.length = m) (h1 : m ≤ 100) (e : Ending) (w' : World) (h : DevNew w size lf dn dw zs e w') : DN w size lf dn dw zs m e w' := by
  obtain ⟨g, rfl, hz, hb⟩ := h
  subst hm
  exact ⟨_, rfl, hz.toZs h1, hb⟩

theorem len_chg (zs : List Zp) (N : Int) (H : Zp → Zp) (E : Zp → Int) : (chgZs zs N H E).length = zs.length := by
  unfold chgZs
  split
  · cases zs[N.toNat]? with
    | none => rfl
    | some z =>
      simp only [Option.elim]
      split
      · simp
      · rfl
  · rfl
theorem len_cmd (size : Int) (zs : List Zp) (kd N : Int) (b : List UInt8) : (cmdZs size zs kd N b).length = zs.length := by
  unfold cmdZs
  repeat' split
  all_goals simp [len_chg]
theorem len_ru (size lf : Int) (dw : Bool) (zs : List Zp) (kd N : Int) (b : List UInt8) : (ruZs size lf dw zs kd N b).length = zs.length := by
  unfold ruZs
  split
  · exact len_cmd size zs kd N b
  · rfl
theorem len_cd (size : Int) (ks : List Int) (zs : List Zp) : (cdZs size ks zs).length = zs.length := by
  unfold cdZs crZs
  split <;> simp

theorem dNew_at (n size : Int) (zs : List Zp) (m : Nat) (w : World) (hm : mayF n size = true) (hz : List.replicate n.toNat zero4 = zs) (hl : zs.length = m) (h1 : m ≤ 100) : Calls Tryd.prog 14 #[.int .i64 n, .int .i64 size] w (DE w size (-1) 0 false zs 0 m) := by
  subst hz
  refine (dNew_any n size w).mono ?_
  rintro e w' (⟨_, h⟩ | ⟨h, _⟩)
  · exact DevErr.at_ hl h1 e w' h
  · rw [hm] at h
    cases h
theorem dNew_no (n size : Int) (w : World) (hm : mayF n size = false) : Calls Tryd.prog 14 #[.int .i64 n, .int .i64 size] w fun e w' => e = .returned (.tuple #[.agg #[.int .i64 0, .slice none 0 0, .int .i64 0, .bool false, .int .i64 0], .int .i64 1]) ∧ Below w.heap.size w w' := by
  refine (dNew_any n size w).mono ?_
  rintro e w' (⟨h, _⟩ | ⟨_, h⟩)
  · rw [hm] at h
    cases h
  · exact h
theorem dDo_at {F : Nat → Prop} (size lf dn : Int) (dw : Bool) (A : Option Addr) (n c : Nat) (zs : List Zp) (kd N : Int) (Ad : Option Addr) (nd cd : Nat) (b : List UInt8) (Lf Dn : Int) (Dw : Bool) (Zz : List Zp) (Er : Int) (w : World) (h : Zs F w A n c zs) (hsm : Sm zs) (hs : Sl w Ad nd cd (b.map v8)) (hnd : nd ≤ 10000) (hlf : lf < 9223372036854775808)
    (h1 : ruLf size lf dw zs = Lf) (h2 : ruDn size lf dn dw zs = Dn) (h3 : ruDw size lf dw zs = Dw) (h4 : ruZs size lf dw zs kd N b = Zz) (h5 : ruEr size lf dw zs kd N b = Er) :
    Calls Tryd.prog 25 #[.agg #[.int .i64 size, .slice A n c, .int .i64 lf, .bool dw, .int .i64 dn], .agg #[.int .i64 kd, .int .i64 N, .slice Ad nd cd]] w (DE w size Lf Dn Dw Zz Er n) := by
  subst h1 h2 h3 h4 h5
  have hl := h.len
  have h0 := hsm.1
  exact (dDo_any size lf dn dw A n c zs kd N Ad nd cd b w h hsm hs hnd hlf).mono (DevErr.at_ ((len_ru _ _ _ _ _ _ _).trans hl) (by omega))
theorem dCrash_at {F : Nat → Prop} (size lf dn : Int) (dw : Bool) (A : Option Addr) (n c : Nat) (zs : List Zp) (Ak : Option Addr) (nk ck : Nat) (ks : List Int) (Lf : Int) (Dw : Bool) (Zz : List Zp) (w : World) (h : Zs F w A n c zs) (hsm : Sm zs) (hs : Sl w Ak nk ck (ks.map iv)) (hf : fits ks)
    (h1 : cdLf size lf zs = Lf) (h3 : cdDw size dw zs = Dw) (h4 : cdZs size ks zs = Zz) :
    Calls Tryd.prog 27 #[.agg #[.int .i64 size, .slice A n c, .int .i64 lf, .bool dw, .int .i64 dn], .slice Ak nk ck] w (DN w size Lf dn Dw Zz n) := by
  subst h1 h3 h4
  have hl := h.len
  have h0 := hsm.1
  have hk : ks.length = nk := by simpa using hs.len
  subst hk
  exact (dCrash_any size lf dn dw A n c zs Ak ck ks w h hsm hs hf).mono (DevNew.at_ ((len_cd _ _ _).trans hl) (by omega))
theorem dLimit_at {F : Nat → Prop} (size lf dn left : Int) (dw : Bool) (A : Option Addr) (n c : Nat) (zs : List Zp) (w : World) (h : Zs F w A n c zs) (hsm : Sm zs) :
    Calls Tryd.prog 32 #[.agg #[.int .i64 size, .slice A n c, .int .i64 lf, .bool dw, .int .i64 dn], .int .i64 left] w (DN w size left dn dw zs n) := by
  have hl := h.len
  have h0 := hsm.1
  exact (dLimit_any size lf dn left dw A n c zs w h hsm).mono (DevNew.at_ hl (by omega))
theorem dCheck_at {F : Nat → Prop} (size lf dn : Int) (dw : Bool) (A : Option Addr) (n c : Nat) (zs : List Zp) (b : Bool) (w : World) (h : Zs F w A n c zs) (hb : devF size zs = b) :
    Calls Tryd.prog 22 #[.agg #[.int .i64 size, .slice A n c, .int .i64 lf, .bool dw, .int .i64 dn]] w fun e w' => e = .returned (.bool b) ∧ Below w.heap.size w w' := by
  subst hb
  exact dCheck_any size lf dn dw A n c zs w h
theorem dOpen_at {F : Nat → Prop} (size lf dn : Int) (dw : Bool) (A : Option Addr) (n c : Nat) (zs : List Zp) (o : Int) (w : World) (h : Zs F w A n c zs) (ho : (openF zs : Int) = o) :
    Calls Tryd.prog 54 #[.agg #[.int .i64 size, .slice A n c, .int .i64 lf, .bool dw, .int .i64 dn]] w fun e w' => e = .returned (.int .i64 o) ∧ Below w.heap.size w w' := by
  subst ho
  exact dOpen_any size lf dn dw A n c zs w h
theorem dRead_ok {F : Nat → Prop} (size lf dn : Int) (dw : Bool) (A : Option Addr) (n c : Nat) (zs : List Zp) (zn at_ m : Int) (l : List UInt8) (k : Nat) (w : World) (h : Zs F w A n c zs) (hsm : Sm zs) (hx : at_ < 9223372036854775808) (hy : m < 9223372036854775808) (ho : rdOk size zs zn at_ m = true) (hl : rdF size zs zn at_ m = l) (hk : l.length = k) :
    Calls Tryd.prog 19 #[.agg #[.int .i64 size, .slice A n c, .int .i64 lf, .bool dw, .int .i64 dn], .int .i64 zn, .int .i64 at_, .int .i64 m] w fun e w' => ∃ A c, e = .returned (.tuple #[.slice A k c, .int .i64 0]) ∧ Nw 5 w w' A k c (l.map v8) ∧ Below w.heap.size w w' := by
  subst hl hk
  refine (dRead_any size lf dn dw A n c zs zn at_ m w h hsm hx hy).mono ?_
  rintro e w' (⟨_, h⟩ | ⟨h, _⟩)
  · exact h
  · rw [ho] at h
    cases h
theorem dRead_no {F : Nat → Prop} (size lf dn : Int) (dw : Bool) (A : Option Addr) (n c : Nat) (zs : List Zp) (zn at_ m : Int) (w : World) (h : Zs F w A n c zs) (hsm : Sm zs) (hx : at_ < 9223372036854775808) (hy : m < 9223372036854775808) (ho : rdOk size zs zn at_ m = false) :
    Calls Tryd.prog 19 #[.agg #[.int .i64 size, .slice A n c, .int .i64 lf, .bool dw, .int .i64 dn], .int .i64 zn, .int .i64 at_, .int .i64 m] w fun e w' => e = .returned (.tuple #[.slice none 0 0, .int .i64 1]) ∧ Below w.heap.size w w' := by
  refine (dRead_any size lf dn dw A n c zs zn at_ m w h hsm hx hy).mono ?_
  rintro e w' (⟨h, _⟩ | ⟨_, h⟩)
  · rw [ho] at h
    cases h
  · exact h

/-- A row of integers that was just laid. -/
theorem sl_new_ints (w : World) (xs : List Int) (t : TypeId) (n : Nat) (hn : xs.length = n) (h : n ≤ 1000) : Sl (w.alloc (.cells (xs.map iv).toArray t)) (some ⟨w.heap.size, 0, none⟩) n n (xs.map iv) := by
  have hh := Sl.new w (xs.map iv) t (by simp; omega)
  simpa [hn] using hh

/-- Whether a device is small. -/
def smF (zs : List Zp) : Bool := decide (zs.length ≤ 70) && zs.all (fun z => decide (z.l.length ≤ 300))
theorem smF_sm {zs : List Zp} (h : smF zs = true) : zs.length ≤ 70 ∧ Sm zs := by
  simp only [smF, Bool.and_eq_true, decide_eq_true_eq, List.all_eq_true] at h
  exact ⟨h.1, by omega, fun z hz => by have := h.2 z hz; omega⟩

set_option maxHeartbeats 1000000 in
theorem lSmall_any {F : Nat → Prop} (size lf dn : Int) (dw : Bool) (A : Option Addr) (n c : Nat) (zs : List Zp) (w : World) (h : Zs F w A n c zs) :
    Calls Tryd.prog 21 #[.agg #[.int .i64 size, .slice A n c, .int .i64 lf, .bool dw, .int .i64 dn]] w fun e w' => e = .returned (.bool (smF zs)) ∧ Below w.heap.size w w' := by
  have hlen := h.len
  subst hlen
  have hbig := h.big
  have hcap := h.cap
  have B0 := Blk.new w #[.int .i64 size, .slice A zs.length c, .int .i64 lf, .bool dw, .int .i64 dn] 36
  have b0 := (Below.refl w.heap.size w).alloc (Nat.le_refl _) (.cells #[.int .i64 size, .slice A zs.length c, .int .i64 lf, .bool dw, .int .i64 dn] 36)
  go_enter Tryd.func21, Tryd.ntmps21
  by_cases h70 : 70 < (zs.length : Int)
  · have e0 : Hid (smF zs = false) := by
      show smF zs = false
      simp only [smF, Bool.and_eq_false_iff, decide_eq_false_iff_not]
      exact .inl (by omega)
    go_wp2
    go_ret
    exact ⟨by rw [e0.out]; rfl, b0⟩
  · go_wp2_with fail
    generalize w.alloc (.cells #[.int .i64 size, .slice A zs.length c, .int .i64 lf, .bool dw, .int .i64 dn] 36) = w0 at *
    go_loopg [3] zs.length (fun g i wr => wr = w0 ∧ ∃ k : Nat, k + g = zs.length ∧ i = .int .i64 (k : Int) ∧ Aside ((zs.take k).all (fun z => decide (z.l.length ≤ 300)) = true))
    case atStart => exact ⟨rfl, 0, by omega, rfl, rfl⟩
    case round =>
      obtain ⟨rfl, k, hk, rfl, hall⟩ := hrel
      obtain ⟨p0, p1, p2, p3, p4, _⟩ := B0.five
      by_cases hlt : (k : Int) < (zs.length : Int)
      · obtain ⟨g, rfl⟩ : ∃ g, gk = g + 1 := ⟨gk - 1, by omega⟩
        obtain ⟨gb, o, z, Ai, ci, rfl, hF, hg, hz, c0', c1', c2', c3', hS, hA⟩ := h.at_ (show k < zs.length by omega)
        have c2 := (b0.cell hg).trans c2'
        clear c0' c1' c2' c3'
        by_cases h3 : 300 < (z.l.length : Int)
        · have e0 : Hid (smF zs = false) := by
            show smF zs = false
            simp only [smF, Bool.and_eq_false_iff, List.all_eq_false]
            exact .inr ⟨z, List.mem_of_getElem? hz, by simp; omega⟩
          clear hz
          go_wp2
          go_ret
          exact ⟨by rw [e0.out]; rfl, b0⟩
        · have hk1 : Aside ((zs.take (k + 1)).all (fun z => decide (z.l.length ≤ 300)) = true) := by
            show _ = true
            have hk1 : zs.take (k + 1) = zs.take k ++ [z] := by
              rw [List.take_add_one, hz]; rfl
            rw [hk1, List.all_append, hall.out]
            simp
            omega
          clear hz
          go_wp2
          go_roundg g
          case measure => omega
          case rel => exact ⟨rfl, k + 1, by omega, by first | rfl | (simp; done) | (simp; exact wrap64_small (by omega) (by omega)), hk1⟩
      · have hkk : k = zs.length := by omega
        have e0 : Hid (smF zs = true) := by
          show smF zs = true
          have hall := hall.out
          rw [hkk, List.take_length] at hall
          simp only [smF, hall, Bool.and_true, decide_eq_true_eq]
          omega
        clear hkk
        go_wp2
        go_ret
        exact ⟨by rw [e0.out]; rfl, b0⟩
end Go.Proofs.YtnejiclghnigiaaDoor
namespace Go.Proofs.YtnejiclghnigiaaDoor
open Go.RowKit Go.Wag
set_option linter.unusedVariables false
set_option maxRecDepth 20000

/-- The three cells of command i. -/
theorem cmd_at {w : World} {a : Option Addr} {len cap i : Nat} (h : IsSts [.num .i64, .num .i64, .row .u8] w a len cap) (hi : i < len) : ∃ (ab ao : Nat) (kd N : Int) (Ab : Option Addr) (nb cb : Nat) (b : List UInt8), a = some ⟨ab, ao, none⟩ ∧ len ≤ cap ∧ ab < w.heap.size ∧
    w.cell? ⟨ab, ao + i * 3, none⟩ = some (.int .i64 kd) ∧ w.cell? ⟨ab, ao + i * 3 + 1, none⟩ = some (.int .i64 N) ∧ w.cell? ⟨ab, ao + i * 3 + 2, none⟩ = some (.slice Ab nb cb) ∧ Sl w Ab nb cb (b.map v8) := by
  rcases h with ⟨_, h0, _⟩ | ⟨ad, rfl, hl, _, hc⟩
  · omega
  · obtain ⟨v0, c0, kd, rfl, _⟩ := hc i hi 0 _ rfl
    obtain ⟨v1, c1, N, rfl, hN⟩ := hc i hi 1 _ rfl
    obtain ⟨v2, c2, Ab, nb, cb, zs, rfl, hr⟩ := hc i hi 2 _ rfl
    obtain ⟨b, hb⟩ := hr.bytes
    obtain ⟨ab, ao, sp⟩ := ad
    have hblk : ab < w.heap.size := by
      by_cases hx : ab < w.heap.size
      · exact hx
      · exfalso
        unfold World.cell? at c0
        rw [add_block, Array.getElem?_eq_none (by simp; omega)] at c0
        cases c0
    cases sp with
    | none =>
      refine ⟨ab, ao, kd, N, Ab, nb, cb, b, rfl, hl, hblk, ?_, ?_, ?_, hb⟩
      · rw [Addr.add_lit] at c0; exact c0
      · rw [Addr.add_lit, ← Nat.add_assoc] at c1; exact c1
      · rw [Addr.add_lit, ← Nat.add_assoc] at c2; exact c2
    | some sp =>
      exfalso
      obtain ⟨v, cz, _⟩ := hc 0 (by omega) 0 _ rfl
      unfold World.cell? at cz
      split at cz
      · simp [Addr.add] at cz
      · cases cz

theorem dev_parts {size : Int} {zs : List Zp} : devF size zs = true ↔ mayF zs.length size = true ∧ ∀ z ∈ zs, zchk size z = true := by
  simp only [devF, Bool.and_eq_true, List.all_eq_true]
theorem sm_dev {size : Int} {zs : List Zp} (h : devF size zs = true) : Sm zs := by
  obtain ⟨h1, h2⟩ := dev_parts.1 h
  simp only [mayF, decide_eq_true_eq] at h1
  refine ⟨by omega, fun z hz => ?_⟩
  have := chk_all (h2 z hz)
  omega
theorem dev_set {size : Int} {zs : List Zp} (h : devF size zs = true) (k : Nat) (z : Zp) (hz : zchk size z = true) : devF size (zs.set k z) = true := by
  obtain ⟨h1, h2⟩ := dev_parts.1 h
  refine dev_parts.2 ⟨by rw [List.length_set]; exact h1, fun x hx => ?_⟩
  rcases List.mem_or_eq_of_mem_set hx with hx | rfl
  · exact h2 x hx
  · exact hz
theorem open_set {zs : List Zp} {k : Nat} {z z' : Zp} (hz : zs[k]? = some z) : openF (zs.set k z') + (if z.st = 1 then 1 else 0) = openF zs + (if z'.st = 1 then 1 else 0) := by
  obtain ⟨hk, rfl⟩ := List.getElem?_eq_some_iff.1 hz
  have hle : (if (zs[k].st == 1) = true then 1 else 0) ≤ zs.countP (fun z => z.st == 1) := by
    split
    · rename_i h
      exact List.countP_pos_iff.2 ⟨zs[k], List.getElem_mem _, h⟩
    · omega
  simp only [openF, List.countP_set hk]
  simp only [beq_iff_eq] at hle ⊢
  omega
/-- What a zone's command must keep. -/
def ZOk (size : Int) (op : Nat) (H : Zp → Zp) (E : Zp → Int) : Prop := ∀ z, zchk size z = true → E z = 0 → zchk size (H z) = true ∧ ((H z).st = 1 → z.st = 1 ∨ op < 3)
theorem ok_chg {size : Int} {zs : List Zp} {N : Int} {H : Zp → Zp} {E : Zp → Int} (hok : ZOk size (openF zs) H E) (h : devF size zs = true) (ho : openF zs ≤ 3) : devF size (chgZs zs N H E) = true ∧ openF (chgZs zs N H E) ≤ 3 := by
  by_cases hN : 0 ≤ N ∧ N < zs.length
  · have hl : N.toNat < zs.length := by omega
    have hz := List.getElem?_eq_getElem hl
    rw [(chg_yes H E hN hz).1]
    by_cases hE : E zs[N.toNat] = 0
    · rw [if_pos hE]
      obtain ⟨h1, h2⟩ := hok zs[N.toNat] ((dev_parts.1 h).2 _ (List.getElem_mem _)) hE
      refine ⟨dev_set h _ _ h1, ?_⟩
      have hs := open_set (z' := H zs[N.toNat]) hz
      by_cases hs1 : (H zs[N.toNat]).st = 1
      · rcases h2 hs1 with h3 | h3
        · rw [if_pos h3, if_pos hs1] at hs
          omega
        · rw [if_pos hs1] at hs
          omega
      · rw [if_neg hs1] at hs
        omega
    · rw [if_neg hE]
      exact ⟨h, ho⟩
  · rw [(chg_no H E hN).1]
    exact ⟨h, ho⟩
theorem zok_ap (size : Int) (op : Nat) (b : List UInt8) : ZOk size op (apH size op b) (apE size op b) := by
  intro z hz hE
  have hc := chk_all hz
  cases hno : apNo op z with
  | true =>
    rw [apE, hno] at hE
    simp at hE
  | false =>
    rw [apE, hno] at hE
    simp only [Bool.false_eq_true, if_false] at hE
    have hH : apH size op b z = ⟨fullF (z.l.length + b.length) size, z.rs, z.la, z.l ++ b⟩ := by
      rw [apH, hno]
      simp only [Bool.false_eq_true, if_false, appSt, appDa, hE, if_true]
    rw [hH]
    have hm : (b.length : Int) ≠ 0 ∧ (b.length : Int) ≤ size - z.l.length ∧ z.st ≠ 3 := by
      rw [appErrF] at hE
      split at hE
      · rename_i h1
        split at hE
        · rename_i h2
          rw [roomF] at h2
          split at h2
          · rename_i h3
            exact ⟨h1.2, h2, h3.2⟩
          · exact absurd h1.2 (by omega)
        · cases hE
      · cases hE
    refine ⟨?_, fun h => ?_⟩
    · rw [zchk, chkF]
      refine decide_eq_true ?_
      simp only [fullF, List.length_append, Int.natCast_add]
      split <;> omega
    · simp only [apNo, Bool.and_eq_false_iff, Bool.not_eq_false', beq_iff_eq, decide_eq_false_iff_not] at hno
      rcases hno with h1 | h1
      · exact .inl h1
      · exact .inr (by omega)
theorem zok_rs (size : Int) (op : Nat) : ZOk size op rsH rsE := by
  intro z hz hE
  have hc := chk_all hz
  have hB : resB z.st z.rs = true := by
    cases h : resB z.st z.rs with
    | true => rfl
    | false => simp [rsE, resEr, h] at hE
  have hH : rsH z = ⟨0, z.rs + 1, 0, []⟩ := by simp [rsH, resSt, resRs, resLa, resDa, hB]
  have hr : z.rs < 1073741824 := by
    simp only [resB, Bool.and_eq_true, decide_eq_true_eq] at hB
    omega
  rw [hH]
  refine ⟨?_, fun h => by simp at h⟩
  rw [zchk, chkF]
  refine decide_eq_true ?_
  simp only [List.length_nil]
  omega
theorem zok_fi (size : Int) (op : Nat) : ZOk size op fiH fiE := by
  intro z hz hE
  have hc := chk_all hz
  have hs : z.st = 1 ∨ z.st = 2 := by
    by_cases h : z.st = 1 ∨ z.st = 2
    · exact h
    · simp [fiE, finEr, h] at hE
  have hH : fiH z = ⟨3, z.rs, z.la, z.l⟩ := by simp [fiH, finSt, hs]
  rw [hH]
  refine ⟨?_, fun h => by simp at h⟩
  rw [zchk, chkF]
  exact decide_eq_true (by simp only; omega)
theorem zok_cl (size : Int) (op : Nat) : ZOk size op clH clE := by
  intro z hz hE
  have hc := chk_all hz
  have hs : z.st = 1 := by
    by_cases h : z.st = 1
    · exact h
    · simp [clE, cloEr, h] at hE
  have hH : clH z = ⟨2, z.rs, z.la, z.l⟩ := by simp [clH, cloSt, hs]
  rw [hH]
  refine ⟨?_, fun h => by simp at h⟩
  rw [zchk, chkF]
  exact decide_eq_true (by simp only; omega)
theorem dev_fs5 {size : Int} {zs : List Zp} (h : devF size zs = true) : devF size (zs.map fsZ) = true := by
  obtain ⟨h1, h2⟩ := dev_parts.1 h
  refine dev_parts.2 ⟨by rw [List.length_map]; exact h1, fun z hz => ?_⟩
  obtain ⟨z0, h0, rfl⟩ := List.mem_map.1 hz
  have := chk_all (h2 z0 h0)
  show chkF z0.st z0.rs z0.l.length z0.l.length size = true
  rw [chkF]
  exact decide_eq_true (by omega)
theorem open_fs (zs : List Zp) : openF (zs.map fsZ) = openF zs := by
  simp only [openF, List.countP_map]
  rfl
theorem ok_cmd {size : Int} {zs : List Zp} (kd N : Int) (b : List UInt8) (h : devF size zs = true) (ho : openF zs ≤ 3) : devF size (cmdZs size zs kd N b) = true ∧ openF (cmdZs size zs kd N b) ≤ 3 := by
  unfold cmdZs
  repeat' split
  · exact ok_chg (zok_ap _ _ _) h ho
  · exact ok_chg (zok_rs _ _) h ho
  · exact ok_chg (zok_fi _ _) h ho
  · exact ok_chg (zok_cl _ _) h ho
  · exact ⟨dev_fs5 h, by rw [open_fs]; exact ho⟩
  · exact ⟨h, ho⟩
theorem ok_ru {size : Int} {zs : List Zp} (lf : Int) (dw : Bool) (kd N : Int) (b : List UInt8) (h : devF size zs = true) (ho : openF zs ≤ 3) : devF size (ruZs size lf dw zs kd N b) = true ∧ openF (ruZs size lf dw zs kd N b) ≤ 3 := by
  unfold ruZs
  split
  · exact ok_cmd kd N b h ho
  · exact ⟨h, ho⟩
end Go.Proofs.YtnejiclghnigiaaDoor
namespace Go.Proofs.YtnejiclghnigiaaDoor
open Go.RowKit Go.Wag
set_option linter.unusedVariables false
set_option maxRecDepth 20000

theorem dev_chg {size : Int} {zs : List Zp} {N : Int} {op : Nat} {H : Zp → Zp} {E : Zp → Int} (hok : ZOk size op H E) (h : devF size zs = true) : devF size (chgZs zs N H E) = true := by
  by_cases hN : 0 ≤ N ∧ N < zs.length
  · have hl : N.toNat < zs.length := by omega
    have hz := List.getElem?_eq_getElem hl
    rw [(chg_yes H E hN hz).1]
    by_cases hE : E zs[N.toNat] = 0
    · rw [if_pos hE]
      exact dev_set h _ _ (hok zs[N.toNat] ((dev_parts.1 h).2 _ (List.getElem_mem _)) hE).1
    · rw [if_neg hE]
      exact h
  · rw [(chg_no H E hN).1]
    exact h
theorem dev_ru {size : Int} {zs : List Zp} (lf : Int) (dw : Bool) (kd N : Int) (b : List UInt8) (h : devF size zs = true) : devF size (ruZs size lf dw zs kd N b) = true := by
  unfold ruZs
  split
  · unfold cmdZs
    repeat' split
    · exact dev_chg (zok_ap _ _ _) h
    · exact dev_chg (zok_rs _ 0) h
    · exact dev_chg (zok_fi _ 0) h
    · exact dev_chg (zok_cl _ 0) h
    · exact dev_fs5 h
    · exact h
  · exact h
/-- What lasts of z is kept in z'. -/
def Kq (z z' : Zp) : Prop := z.la ≤ z'.l.length ∧ z'.l.take z.la.toNat = z.l.take z.la.toNat
theorem Kq.of_app {z z' : Zp} {t : List UInt8} (h : z'.l = z.l ++ t) (hl : z.la ≤ z.l.length) : Kq z z' := by
  refine ⟨by rw [h, List.length_append]; omega, ?_⟩
  rw [h, List.take_append_of_le_length (by omega)]
theorem Kq.rfl_ {z : Zp} (hl : z.la ≤ z.l.length) : Kq z z := Kq.of_app (t := []) (by simp) hl
def ZKp (H : Zp → Zp) (E : Zp → Int) : Prop := ∀ z, E z = 0 → ∃ t, (H z).l = z.l ++ t
theorem keep_chg {size : Int} {zs : List Zp} {N : Int} {H : Zp → Zp} {E : Zp → Int} (hk : ZKp H E) (h : devF size zs = true) (i : Nat) (z : Zp) (hz : zs[i]? = some z) : ∃ z', (chgZs zs N H E)[i]? = some z' ∧ Kq z z' := by
  have hla : z.la ≤ z.l.length := (chk_all ((dev_parts.1 h).2 z (List.mem_of_getElem? hz))).2.2.2.2.2.2.2.2.1
  by_cases hN : 0 ≤ N ∧ N < zs.length
  · have hl : N.toNat < zs.length := by omega
    have hzN := List.getElem?_eq_getElem hl
    rw [(chg_yes H E hN hzN).1]
    by_cases hE : E zs[N.toNat] = 0
    · rw [if_pos hE, List.getElem?_set]
      by_cases hi : N.toNat = i
      · subst hi
        rw [if_pos rfl, if_pos hl]
        obtain rfl : zs[N.toNat] = z := Option.some.inj (hzN.symm.trans hz)
        obtain ⟨t, ht⟩ := hk _ hE
        exact ⟨_, rfl, Kq.of_app ht hla⟩
      · rw [if_neg hi]
        exact ⟨z, hz, Kq.rfl_ hla⟩
    · rw [if_neg hE]
      exact ⟨z, hz, Kq.rfl_ hla⟩
  · rw [(chg_no H E hN).1]
    exact ⟨z, hz, Kq.rfl_ hla⟩
theorem zkp_ap (size : Int) (op : Nat) (b : List UInt8) : ZKp (apH size op b) (apE size op b) := by
  intro z hE
  cases hno : apNo op z with
  | true =>
    rw [apE, hno] at hE
    simp at hE
  | false =>
    rw [apE, hno] at hE
    simp only [Bool.false_eq_true, if_false] at hE
    refine ⟨b, ?_⟩
    rw [apH, hno]
    simp only [Bool.false_eq_true, if_false, appDa, hE, if_true]
theorem keep_ru {size : Int} {zs : List Zp} (lf : Int) (dw : Bool) (kd N : Int) (b : List UInt8) (h : devF size zs = true) (h2 : kd ≠ 2) (i : Nat) (z : Zp) (hz : zs[i]? = some z) : ∃ z', (ruZs size lf dw zs kd N b)[i]? = some z' ∧ Kq z z' := by
  have hla : z.la ≤ z.l.length := (chk_all ((dev_parts.1 h).2 z (List.mem_of_getElem? hz))).2.2.2.2.2.2.2.2.1
  unfold ruZs
  split
  · simp only [cmdZs, if_neg h2]
    repeat' split
    · exact keep_chg (zkp_ap _ _ _) h i z hz
    · exact keep_chg (fun z _ => ⟨[], by simp [fiH]⟩) h i z hz
    · exact keep_chg (fun z _ => ⟨[], by simp [clH]⟩) h i z hz
    · exact ⟨fsZ z, by rw [List.getElem?_map, hz]; rfl, Kq.of_app (t := []) (by simp [fsZ]) hla⟩
    · exact ⟨z, hz, Kq.rfl_ hla⟩
  · exact ⟨z, hz, Kq.rfl_ hla⟩
theorem cd_at (size : Int) (ks : List Int) (zs : List Zp) {i : Nat} {z : Zp} (hd : devF size zs = true) (hz : zs[i]? = some z) : (cdZs size ks zs)[i]? = some (crZ size (keepAt ks i) z) := by
  rw [cdZs, hd, if_pos rfl, crZs, List.getElem?_mapIdx, hz]
  rfl
theorem cr_ok {size keep : Int} {z : Zp} (hc : zchk size z = true) : zchk size (crZ size keep z) = true ∧ (crZ size keep z).st ≠ 1 ∧ Kq z (crZ size keep z) := by
  have h := chk_all hc
  have hc' : chkF z.st z.rs z.l.length z.la size = true := hc
  obtain ⟨kk, hkk⟩ : ∃ k, crK z.l.length z.la keep = k := ⟨_, rfl⟩
  have hk : z.la ≤ kk ∧ kk ≤ z.l.length ∧ 0 ≤ kk := by
    rw [← hkk, crK]
    omega
  have hl : ((z.l.take kk.toNat).length : Int) = kk := by
    rw [List.length_take]
    omega
  have e : crZ size keep z = ⟨if kk = 0 then 0 else if z.st = 3 then 3 else 2, z.rs, kk, z.l.take kk.toNat⟩ := by
    simp only [crZ, crSt, crLa, crDa, hc', if_true, hkk]
  rw [e]
  refine ⟨?_, ?_, ?_, ?_⟩
  · rw [zchk, chkF]
    refine decide_eq_true ?_
    simp only [hl]
    split
    · omega
    · split <;> omega
  · simp only
    split
    · omega
    · split <;> omega
  · simp only [hl]
    omega
  · simp only
    rw [List.take_take, Nat.min_eq_left (by omega)]
theorem cd_ok {size : Int} {zs : List Zp} (ks : List Int) (h : devF size zs = true) : devF size (cdZs size ks zs) = true ∧ openF (cdZs size ks zs) = 0 := by
  obtain ⟨h1, h2⟩ := dev_parts.1 h
  have hm : ∀ z' ∈ cdZs size ks zs, ∃ z ∈ zs, ∃ keep, z' = crZ size keep z := fun z' hz' => by
    rw [cdZs, h, if_pos rfl, crZs] at hz'
    obtain ⟨i, hi, rfl⟩ := List.mem_mapIdx.1 hz'
    exact ⟨_, List.getElem_mem hi, _, rfl⟩
  refine ⟨dev_parts.2 ⟨by rw [len_cd]; exact h1, fun z' hz' => ?_⟩, ?_⟩
  · obtain ⟨z, hz, keep, rfl⟩ := hm z' hz'
    exact (cr_ok (h2 z hz)).1
  · rw [openF, List.countP_eq_zero]
    intro z' hz'
    obtain ⟨z, hz, keep, rfl⟩ := hm z' hz'
    simpa using (cr_ok (keep := keep) (h2 z hz)).2.1
theorem keep_cd {size : Int} {zs : List Zp} (ks : List Int) (h : devF size zs = true) (i : Nat) (z : Zp) (hz : zs[i]? = some z) : ∃ z', (cdZs size ks zs)[i]? = some z' ∧ Kq z z' :=
  ⟨_, cd_at size ks zs h hz, (cr_ok ((dev_parts.1 h).2 z (List.mem_of_getElem? hz))).2.2⟩
end Go.Proofs.YtnejiclghnigiaaDoor
namespace Go.Wag
open Go.RowKit
set_option linter.unusedVariables false
set_option maxRecDepth 20000
/-- A row of one struct, as it is written out. -/
theorem Rq.lit {α : Type} {E : Elt α} {F : Nat → Prop} {x : α} {vs : List Value} (w : World) (B : Nat) (t : TypeId) (hB : B ≤ w.heap.size) (hx : E.rd F w vs x) (hF : ∀ b, b < w.heap.size → F b → b ≠ w.heap.size) : Rq E F B t (w.alloc (.cells vs.toArray t)) (some ⟨w.heap.size, 0, none⟩) 1 1 [x] := by
  have hl := E.len hx
  refine ⟨rfl, vs, ⟨by omega, .inr ⟨w.heap.size, 1, vs.toArray, rfl, hB, heap_alloc_new w _, Nat.le_refl _, by simp [maxLen], by simp [hl], by simp [← hl]⟩⟩, fun i y hi => ?_⟩
  obtain rfl : i = 0 := by
    have := (List.getElem?_eq_some_iff.1 hi).1
    simp at this
    omega
  cases hi
  refine ⟨vs, ?_, fun j v hj => by simpa using hj⟩
  have k1 : E.rd (fun b => F b ∧ b ≠ w.heap.size) w vs x := E.imp hx (fun b hb hf => ⟨hf, hF b hb hf⟩)
  have k2 := Elt.below k1 ((Below.refl w.heap.size w).alloc (Nat.le_refl _) (.cells vs.toArray t))
  exact E.imp k2 (fun b _ hf => ⟨hf.1, by simp only [Value.ownBlock, ne_eq, Option.some.injEq]; exact fun e => hf.2 e.symm⟩)
end Go.Wag
namespace Go.Proofs.YtnejiclghnigiaaDoor
open Go.RowKit Go.Wag
set_option linter.unusedVariables false
set_option maxRecDepth 20000

def isO (z : Zp) : Bool := decide (z.st = 1)
def isE (z : Zp) : Bool := decide (z.st = 0)
def roomy (size n : Int) (z : Zp) : Bool := isO z && decide (n ≤ roomF z.st z.rs z.l.length z.la size)
/-- Where the first zone of a kind is. -/
def idxF (p : Zp → Bool) (zs : List Zp) : Int := (zs.findIdx? p).elim (-1) (fun i => (i : Int))
theorem idx_at {p : Zp → Bool} {zs : List Zp} {k : Nat} {z : Zp} (hz : zs[k]? = some z) (hp : p z = true) (hn : ∀ i x, i < k → zs[i]? = some x → p x = false) : idxF p zs = k := by
  have hk := (List.getElem?_eq_some_iff.1 hz)
  obtain ⟨hk, hkz⟩ := hk
  have : zs.findIdx? p = some k := by
    rw [List.findIdx?_eq_some_iff_getElem]
    refine ⟨hk, by rw [hkz]; exact hp, fun j hj => ?_⟩
    rw [hn j _ hj (List.getElem?_eq_getElem (by omega))]
    simp
  rw [idxF, this]
  rfl
theorem idx_none {p : Zp → Bool} {zs : List Zp} (hn : ∀ z ∈ zs, p z = false) : idxF p zs = -1 := by
  have : zs.findIdx? p = none := by
    rw [List.findIdx?_eq_none_iff]
    intro z hz
    rw [hn z hz]
  rw [idxF, this]
  rfl
theorem idx_cases (p : Zp → Bool) (zs : List Zp) : (idxF p zs = -1 ∧ ∀ z ∈ zs, p z = false) ∨ ∃ (k : Nat) (z : Zp), idxF p zs = (k : Int) ∧ k < zs.length ∧ zs[k]? = some z ∧ p z = true ∧ ∀ i x, i < k → zs[i]? = some x → p x = false := by
  cases h : zs.findIdx? p with
  | none =>
    rw [List.findIdx?_eq_none_iff] at h
    exact .inl ⟨idx_none (fun z hz => by simpa using h z hz), fun z hz => by simpa using h z hz⟩
  | some k =>
    have h0 := h
    rw [List.findIdx?_eq_some_iff_getElem] at h
    obtain ⟨hk, h1, h2⟩ := h
    refine .inr ⟨k, zs[k], by rw [idxF, h0]; rfl, hk, List.getElem?_eq_getElem hk, h1, fun i x hi hx => ?_⟩
    obtain ⟨hi2, rfl⟩ := List.getElem?_eq_some_iff.1 hx
    simpa using h2 i hi

theorem gisOpen_any (st rs la : Int) (A : Option Addr) (n c : Nat) (w : World) :
    Calls Tryd.prog 52 #[.agg #[.int .i64 st, .int .i64 rs, .slice A n c, .int .i64 la]] w fun e w' => e = .returned (.bool (decide (st = 1))) ∧ Below w.heap.size w w' := by
  by_cases h : st = 1
  all_goals
    go_enter Tryd.func52, Tryd.ntmps52
    go_wp2
    go_ret
    go_tidy
    exact ⟨by simp [h], (Below.refl _ _).alloc (Nat.le_refl _) _⟩
theorem gisEmpty_any (st rs la : Int) (A : Option Addr) (n c : Nat) (w : World) :
    Calls Tryd.prog 46 #[.agg #[.int .i64 st, .int .i64 rs, .slice A n c, .int .i64 la]] w fun e w' => e = .returned (.bool (decide (st = 0))) ∧ Below w.heap.size w w' := by
  by_cases h : st = 0
  all_goals
    go_enter Tryd.func46, Tryd.ntmps46
    go_wp2
    go_ret
    go_tidy
    exact ⟨by simp [h], (Below.refl _ _).alloc (Nat.le_refl _) _⟩

set_option maxHeartbeats 1000000 in
theorem gPlace1_any (z : Zp) (Ai : Option Addr) (ci : Nat) (size lf dn m : Int) (dw : Bool) (A : Option Addr) (n c : Nat) (kd kn tn : Nat) (w : World)
    (hd : Blk w kd #[.int .i64 size, .slice A n c, .int .i64 lf, .bool dw, .int .i64 dn] 36) (hn : Blk w kn #[.int .i64 m] tn) :
    Calls Tryd.prog 51 #[.agg #[.int .i64 z.st, .int .i64 z.rs, .slice Ai z.l.length ci, .int .i64 z.la], .pointer (some ⟨kd, 0, none⟩), .pointer (some ⟨kn, 0, none⟩)] w fun e w' => e = .returned (.bool (roomy size m z)) ∧ Below w.heap.size w w' := by
  have B0 := Blk.new w #[.int .i64 z.st, .int .i64 z.rs, .slice Ai z.l.length ci, .int .i64 z.la] 56
  have b0 := (Below.refl w.heap.size w).alloc (Nat.le_refl _) (.cells #[.int .i64 z.st, .int .i64 z.rs, .slice Ai z.l.length ci, .int .i64 z.la] 56)
  replace hd := hd.under b0
  replace hn := hn.under b0
  by_cases h1' : z.st = 1
  · have h1 : Hid (z.st = 1) := h1'
    obtain ⟨rm, hrm⟩ : ∃ x, Hid (x = roomF z.st z.rs z.l.length z.la size) := ⟨_, rfl⟩
    have hr : roomy size m z = decide (m ≤ rm) := by simp [roomy, isO, h1', hrm.out]
    rw [hr]
    clear hr h1'
    go_enter Tryd.func51, Tryd.ntmps51
    go_wp2_with fail
    generalize w.alloc (.cells #[.int .i64 z.st, .int .i64 z.rs, .slice Ai z.l.length ci, .int .i64 z.la] 56) = w0 at *
    refine wp_region_held_drew (S := fun w' => Below w0.heap.size w0 w') (by kernel_rfl) (Below.refl _ _).drew (fun hHeld => ?_)
    try dsimp only at hHeld
    generalize w0.drew = wd at *
    try simp only [Act.put, List.setIfInBounds_toArray, List.set_cons_zero, List.set_cons_succ]
    refine wpAnyH_take (i := 0) (v := ?_) (by simp only [List.getElem?_toArray, List.getElem?_cons_zero]; rfl) (by kernel_rfl) (by kernel_rfl) (by kernel_rfl) (by intro _ _ _ h; exact h) (Or.inl ⟨by rfl, ?_⟩) hHeld ?_
    rotate_left 1
    · intro wq hSw
      try dsimp only at hSw
      obtain ⟨x0, x1, x2, x3, _⟩ := (B0.under hSw).four
      go_simp
      try (with_reducible rfl)
    try simp only [Act.put, List.setIfInBounds_toArray, List.set_cons_zero, List.set_cons_succ]
    refine wpAnyH_ready (rs := [1]) (by kernel_rfl) (by simp) ?_
    refine AllReadyH.cons (by simp only [List.getElem?_toArray, List.getElem?_cons_succ, List.getElem?_cons_zero]; rfl) (fun K hK => ?_) AllReadyH.nil
    have hC := gisOpen_any z.st z.rs z.la Ai z.l.length ci wd
    go_simp
    refine hC.mono ?_
    clear hC
    rintro e w2 ⟨rfl, b2⟩
    rw [decide_eq_true h1.out]
    go_wp2_with fail
    refine hK.out _ _ (hHeld.trans (b2.mono hHeld.size)) (fun hHeld => ?_)
    clear hK K
    try dsimp only at hHeld
    try simp only [Act.put, List.setIfInBounds_toArray, List.set_cons_zero, List.set_cons_succ]
    refine wpAnyH_take (i := 2) (v := ?_) (by simp only [List.getElem?_toArray, List.getElem?_cons_succ, List.getElem?_cons_zero]; rfl) (by kernel_rfl) (by kernel_rfl) (by kernel_rfl) (by intro _ _ _ h; exact h) (Or.inl ⟨by rfl, ?_⟩) hHeld ?_
    rotate_left 1
    · intro wq hSw
      try dsimp only at hSw
      go_simp
      try (with_reducible rfl)
    try simp only [Act.put, List.setIfInBounds_toArray, List.set_cons_zero, List.set_cons_succ]
    refine wpAnyH_take (i := 3) (v := ?_) (by simp only [List.getElem?_toArray, List.getElem?_cons_succ, List.getElem?_cons_zero]; rfl) (by kernel_rfl) (by kernel_rfl) (by kernel_rfl) (by intro _ _ _ h; exact h) (Or.inl ⟨by rfl, ?_⟩) hHeld ?_
    rotate_left 1
    · intro wq hSw
      try dsimp only at hSw
      obtain ⟨x0, x1, x2, x3, _⟩ := (B0.under hSw).four
      go_simp
      try (with_reducible rfl)
    try simp only [Act.put, List.setIfInBounds_toArray, List.set_cons_zero, List.set_cons_succ]
    refine wpAnyH_take (i := 4) (v := ?_) (by simp only [List.getElem?_toArray, List.getElem?_cons_succ, List.getElem?_cons_zero]; rfl) (by kernel_rfl) (by kernel_rfl) (by kernel_rfl) (by intro _ _ _ h; exact h) (Or.inl ⟨by rfl, ?_⟩) hHeld ?_
    rotate_left 1
    · intro wq hSw
      try dsimp only at hSw
      go_simp
      try (with_reducible rfl)
    try simp only [Act.put, List.setIfInBounds_toArray, List.set_cons_zero, List.set_cons_succ]
    refine wpAnyH_take (i := 5) (v := ?_) (by simp only [List.getElem?_toArray, List.getElem?_cons_succ, List.getElem?_cons_zero]; rfl) (by kernel_rfl) (by kernel_rfl) (by kernel_rfl) (by intro _ _ _ h; exact h) (Or.inl ⟨by rfl, ?_⟩) hHeld ?_
    rotate_left 1
    · intro wq hSw
      try dsimp only at hSw
      obtain ⟨x0, x1, x2, x3, x4, _⟩ := (hd.under hSw).five
      go_simp
      try (with_reducible rfl)
    try simp only [Act.put, List.setIfInBounds_toArray, List.set_cons_zero, List.set_cons_succ]
    refine wpAnyH_take (i := 7) (v := ?_) (by simp only [List.getElem?_toArray, List.getElem?_cons_succ, List.getElem?_cons_zero]; rfl) (by kernel_rfl) (by kernel_rfl) (by kernel_rfl) (by intro _ _ _ h; exact h) (Or.inl ⟨by rfl, ?_⟩) hHeld ?_
    rotate_left 1
    · intro wq hSw
      try dsimp only at hSw
      obtain ⟨x0, _⟩ := (hn.under hSw).one
      go_simp
      try (with_reducible rfl)
    try simp only [Act.put, List.setIfInBounds_toArray, List.set_cons_zero, List.set_cons_succ]
    refine wpAnyH_ready (rs := [6]) (by kernel_rfl) (by simp) ?_
    refine AllReadyH.cons (by simp only [List.getElem?_toArray, List.getElem?_cons_succ, List.getElem?_cons_zero]; rfl) (fun K hK => ?_) AllReadyH.nil
    have hC := zRoom_any z.st z.rs z.la size Ai z.l.length ci w2
    rw [← hrm.out] at hC
    go_simp
    refine hC.mono ?_
    clear hC
    rintro e w3 ⟨rfl, b3⟩
    go_wp2_with fail
    refine hK.out _ _ (hHeld.trans (b3.mono hHeld.size)) (fun hHeld => ?_)
    clear hK K
    try dsimp only at hHeld
    try simp only [Act.put, List.setIfInBounds_toArray, List.set_cons_zero, List.set_cons_succ]
    refine wpAnyH_take (i := 8) (v := ?_) (by simp only [List.getElem?_toArray, List.getElem?_cons_succ, List.getElem?_cons_zero]; rfl) (by kernel_rfl) (by kernel_rfl) (by kernel_rfl) (by intro _ _ _ h; exact h) (Or.inl ⟨by rfl, ?_⟩) hHeld ?_
    rotate_left 1
    · intro wq hSw
      try dsimp only at hSw
      go_simp
      try (with_reducible rfl)
    try simp only [Act.put, List.setIfInBounds_toArray, List.set_cons_zero, List.set_cons_succ]
    refine wpAnyH_take (i := 9) (v := ?_) (by simp only [List.getElem?_toArray, List.getElem?_cons_succ, List.getElem?_cons_zero]; rfl) (by kernel_rfl) (by kernel_rfl) (by kernel_rfl) (by intro _ _ _ h; exact h) (Or.inl ⟨by rfl, ?_⟩) hHeld ?_
    rotate_left 1
    · intro wq hSw
      try dsimp only at hSw
      go_simp
      try (with_reducible rfl)
    try simp only [Act.put, List.setIfInBounds_toArray, List.set_cons_zero, List.set_cons_succ]
    refine wpAnyH_take (i := 10) (v := ?_) (by simp only [List.getElem?_toArray, List.getElem?_cons_succ, List.getElem?_cons_zero]; rfl) (by kernel_rfl) (by kernel_rfl) (by kernel_rfl) (by intro _ _ _ h; exact h) (Or.inl ⟨by rfl, ?_⟩) hHeld ?_
    rotate_left 1
    · intro wq hSw
      try dsimp only at hSw
      go_simp
      try (with_reducible rfl)
    try simp only [Act.put, List.setIfInBounds_toArray, List.set_cons_zero, List.set_cons_succ]
    refine wpAnyH_done (by kernel_rfl) ?_ _
    go_wp2
    go_ret
    exact ⟨rfl, b0.trans (hHeld.mono b0.size)⟩
  · have h1 : Hid (¬ z.st = 1) := h1'
    have hr : roomy size m z = false := by simp [roomy, isO, h1']
    rw [hr]
    clear hr h1'
    go_enter Tryd.func51, Tryd.ntmps51
    go_wp2_with fail
    generalize w.alloc (.cells #[.int .i64 z.st, .int .i64 z.rs, .slice Ai z.l.length ci, .int .i64 z.la] 56) = w0 at *
    refine wp_region_held_drew (S := fun w' => Below w0.heap.size w0 w') (by kernel_rfl) (Below.refl _ _).drew (fun hHeld => ?_)
    try dsimp only at hHeld
    generalize w0.drew = wd at *
    try simp only [Act.put, List.setIfInBounds_toArray, List.set_cons_zero, List.set_cons_succ]
    refine wpAnyH_take (i := 0) (v := ?_) (by simp only [List.getElem?_toArray, List.getElem?_cons_zero]; rfl) (by kernel_rfl) (by kernel_rfl) (by kernel_rfl) (by intro _ _ _ h; exact h) (Or.inl ⟨by rfl, ?_⟩) hHeld ?_
    rotate_left 1
    · intro wq hSw
      try dsimp only at hSw
      obtain ⟨x0, x1, x2, x3, _⟩ := (B0.under hSw).four
      go_simp
      try (with_reducible rfl)
    try simp only [Act.put, List.setIfInBounds_toArray, List.set_cons_zero, List.set_cons_succ]
    refine wpAnyH_ready (rs := [1]) (by kernel_rfl) (by simp) ?_
    refine AllReadyH.cons (by simp only [List.getElem?_toArray, List.getElem?_cons_succ, List.getElem?_cons_zero]; rfl) (fun K hK => ?_) AllReadyH.nil
    have hC := gisOpen_any z.st z.rs z.la Ai z.l.length ci wd
    go_simp
    refine hC.mono ?_
    clear hC
    rintro e w2 ⟨rfl, b2⟩
    rw [decide_eq_false h1.out]
    go_wp2_with fail
    refine hK.out _ _ (hHeld.trans (b2.mono hHeld.size)) (fun hHeld => ?_)
    clear hK K
    try dsimp only at hHeld
    try simp only [Act.put, List.setIfInBounds_toArray, List.set_cons_zero, List.set_cons_succ]
    refine wpAnyH_take (i := 2) (v := ?_) (by simp only [List.getElem?_toArray, List.getElem?_cons_succ, List.getElem?_cons_zero]; rfl) (by kernel_rfl) (by kernel_rfl) (by kernel_rfl) (by intro _ _ _ h; exact h) (Or.inl ⟨by rfl, ?_⟩) hHeld ?_
    rotate_left 1
    · intro wq hSw
      try dsimp only at hSw
      go_simp
      try (with_reducible rfl)
    try simp only [Act.put, List.setIfInBounds_toArray, List.set_cons_zero, List.set_cons_succ]
    refine wpAnyH_take (i := 3) (v := undef) (by simp only [List.getElem?_toArray, List.getElem?_cons_succ, List.getElem?_cons_zero]; rfl) (by kernel_rfl) (by kernel_rfl) (by kernel_rfl) (by intro _ _ _ h; exact h) (Or.inr ⟨by rfl, rfl⟩) hHeld ?_
    try simp only [Act.put, List.setIfInBounds_toArray, List.set_cons_zero, List.set_cons_succ]
    refine wpAnyH_take (i := 4) (v := undef) (by simp only [List.getElem?_toArray, List.getElem?_cons_succ, List.getElem?_cons_zero]; rfl) (by kernel_rfl) (by kernel_rfl) (by kernel_rfl) (by intro _ _ _ h; exact h) (Or.inr ⟨by rfl, rfl⟩) hHeld ?_
    try simp only [Act.put, List.setIfInBounds_toArray, List.set_cons_zero, List.set_cons_succ]
    refine wpAnyH_take (i := 5) (v := undef) (by simp only [List.getElem?_toArray, List.getElem?_cons_succ, List.getElem?_cons_zero]; rfl) (by kernel_rfl) (by kernel_rfl) (by kernel_rfl) (by intro _ _ _ h; exact h) (Or.inr ⟨by rfl, rfl⟩) hHeld ?_
    try simp only [Act.put, List.setIfInBounds_toArray, List.set_cons_zero, List.set_cons_succ]
    refine wpAnyH_take (i := 6) (v := undef) (by simp only [List.getElem?_toArray, List.getElem?_cons_succ, List.getElem?_cons_zero]; rfl) (by kernel_rfl) (by kernel_rfl) (by kernel_rfl) (by intro _ _ _ h; exact h) (Or.inr ⟨by rfl, rfl⟩) hHeld ?_
    try simp only [Act.put, List.setIfInBounds_toArray, List.set_cons_zero, List.set_cons_succ]
    refine wpAnyH_take (i := 7) (v := undef) (by simp only [List.getElem?_toArray, List.getElem?_cons_succ, List.getElem?_cons_zero]; rfl) (by kernel_rfl) (by kernel_rfl) (by kernel_rfl) (by intro _ _ _ h; exact h) (Or.inr ⟨by rfl, rfl⟩) hHeld ?_
    try simp only [Act.put, List.setIfInBounds_toArray, List.set_cons_zero, List.set_cons_succ]
    refine wpAnyH_take (i := 8) (v := undef) (by simp only [List.getElem?_toArray, List.getElem?_cons_succ, List.getElem?_cons_zero]; rfl) (by kernel_rfl) (by kernel_rfl) (by kernel_rfl) (by intro _ _ _ h; exact h) (Or.inr ⟨by rfl, rfl⟩) hHeld ?_
    try simp only [Act.put, List.setIfInBounds_toArray, List.set_cons_zero, List.set_cons_succ]
    refine wpAnyH_take (i := 9) (v := ?_) (by simp only [List.getElem?_toArray, List.getElem?_cons_succ, List.getElem?_cons_zero]; rfl) (by kernel_rfl) (by kernel_rfl) (by kernel_rfl) (by intro _ _ _ h; exact h) (Or.inl ⟨by rfl, ?_⟩) hHeld ?_
    rotate_left 1
    · intro wq hSw
      try dsimp only at hSw
      go_simp
      try (with_reducible rfl)
    try simp only [Act.put, List.setIfInBounds_toArray, List.set_cons_zero, List.set_cons_succ]
    refine wpAnyH_take (i := 10) (v := ?_) (by simp only [List.getElem?_toArray, List.getElem?_cons_succ, List.getElem?_cons_zero]; rfl) (by kernel_rfl) (by kernel_rfl) (by kernel_rfl) (by intro _ _ _ h; exact h) (Or.inl ⟨by rfl, ?_⟩) hHeld ?_
    rotate_left 1
    · intro wq hSw
      try dsimp only at hSw
      go_simp
      try (with_reducible rfl)
    try simp only [Act.put, List.setIfInBounds_toArray, List.set_cons_zero, List.set_cons_succ]
    refine wpAnyH_done (by kernel_rfl) ?_ _
    go_wp2
    go_ret
    exact ⟨rfl, b0.trans (hHeld.mono b0.size)⟩

set_option maxHeartbeats 1000000 in
theorem gIndex_any {F : Nat → Prop} (f : FuncId) (cap : Array Value) (p : Zp → Bool) (A : Option Addr) (n c : Nat) (zs : List Zp) (w : World) (h : Zs F w A n c zs)
    (hent : ∀ v w, (callFunc f (#[v] ++ cap)).run Tryd.prog w = .ok (.enter f (#[v] ++ cap)) w)
    (hf : ∀ z Ai ci w', Below w.heap.size w w' → Calls Tryd.prog f (#[.agg #[.int .i64 z.st, .int .i64 z.rs, .slice Ai z.l.length ci, .int .i64 z.la]] ++ cap) w' fun e w2 => e = .returned (.bool (p z)) ∧ Below w'.heap.size w' w2) :
    Calls Tryd.prog 50 #[.slice A n c, .func (.func f) #[] cap] w fun e w' => e = .returned (.int .i64 (idxF p zs)) ∧ Below w.heap.size w w' := by
  have hlen := h.len
  subst hlen
  have hbig := h.big
  have hcap := h.cap
  go_enter Tryd.func50, Tryd.ntmps50
  go_wp2_with fail
  go_loopg [8] zs.length (fun g i wr => ∃ k : Nat, k + g = zs.length ∧ i = .int .i64 (k : Int) ∧ Aside (∀ j x, j < k → zs[j]? = some x → p x = false) ∧ Below w.heap.size w wr)
  case atStart => exact ⟨0, by omega, rfl, fun j x hj => absurd hj (by omega), Below.refl _ _⟩
  case round =>
    obtain ⟨k, hk, rfl, hall, bb⟩ := hrel
    by_cases hlt : (k : Int) < (zs.length : Int)
    · obtain ⟨g, rfl⟩ : ∃ g, gk = g + 1 := ⟨gk - 1, by omega⟩
      obtain ⟨gb, o, z, Ai, ci, rfl, hF, hg, hz, c0', c1', c2', c3', hS, hA⟩ := h.at_ (show k < zs.length by omega)
      have c0 := (bb.cell hg).trans c0'
      have c1 := (bb.cell hg).trans c1'
      have c2 := (bb.cell hg).trans c2'
      have c3 := (bb.cell hg).trans c3'
      have hC := hf z Ai ci wr bb
      clear c0' c1' c2' c3'
      cases hp : p z with
      | true =>
        have hi : Hid (idxF p zs = k) := idx_at hz hp hall.out
        clear hz
        go_wp2_with fail
        refine hC.mono ?_
        clear hC
        rw [hp]
        rintro e w2 ⟨rfl, b2⟩
        go_wp2
        go_ret
        rw [hi.out]
        exact ⟨rfl, bb.trans (b2.mono bb.size)⟩
      | false =>
        have hk1 : Aside (∀ j x, j < k + 1 → zs[j]? = some x → p x = false) := fun j x hj hx => by
          by_cases hjk : j = k
          · subst hjk
            cases hz.symm.trans hx
            exact hp
          · exact hall.out j x (by omega) hx
        clear hz
        go_wp2_with fail
        refine hC.mono ?_
        clear hC
        rw [hp]
        rintro e w2 ⟨rfl, b2⟩
        go_wp2
        go_roundg g
        case measure => omega
        case rel => exact ⟨k + 1, by omega, by first | rfl | (simp; done) | (simp; exact wrap64_small (by omega) (by omega)), hk1, bb.trans (b2.mono bb.size)⟩
    · have hi : Hid (idxF p zs = -1) := idx_none fun z hz => by
        obtain ⟨j, hj, rfl⟩ := List.mem_iff_getElem.1 hz
        exact hall.out j _ (by omega) (List.getElem?_eq_getElem hj)
      go_wp2
      go_ret
      rw [hi.out]
      exact ⟨rfl, bb⟩

/-- Place's error, zone, and commands. -/
def plEr (size : Int) (zs : List Zp) (m : Int) : Int := if devF size zs = true ∧ 1 ≤ m ∧ m ≤ size then (if 0 ≤ idxF (roomy size m) zs then 0 else if idxF isE zs < 0 then 60 else 0) else 1
def plZn (size : Int) (zs : List Zp) (m : Int) : Int := if plEr size zs m = 0 then (if 0 ≤ idxF (roomy size m) zs then idxF (roomy size m) zs else idxF isE zs) else 0
def plCs (size : Int) (zs : List Zp) (m : Int) : List Rp := if plEr size zs m = 0 then (if 0 ≤ idxF (roomy size m) zs then [] else if openF zs < 3 then [] else [⟨3, idxF isO zs, []⟩]) else []
/-- What Place answers. -/
def PlacePost (w : World) (zn er : Int) (cs : List Rp) (e : Ending) (w' : World) : Prop :=
  ∃ A c, e = .returned (.tuple #[.int .i64 zn, .slice A cs.length c, .int .i64 er]) ∧ Rq recE (fun b => w.heap.size ≤ b) w.heap.size 60 w' A cs.length c cs ∧ Below w.heap.size w w'
theorem PlacePost.none {w w' : World} {zn er zn' er' : Int} {cs : List Rp} (h1 : zn' = zn) (h2 : er' = er) (h3 : cs = []) (hb : Below w.heap.size w w') : PlacePost w zn' er' cs (.returned (.tuple #[.int .i64 zn, .slice none 0 0, .int .i64 er])) w' := by
  subst h1 h2 h3
  exact ⟨.none, 0, rfl, Rq.nil _ _ _ _ _, hb⟩

set_option maxHeartbeats 2000000 in
theorem gPlace_any {F : Nat → Prop} (size lf dn m : Int) (dw : Bool) (A : Option Addr) (n c : Nat) (zs : List Zp) (w : World) (h : Zs F w A n c zs) :
    Calls Tryd.prog 28 #[.agg #[.int .i64 size, .slice A n c, .int .i64 lf, .bool dw, .int .i64 dn], .int .i64 m] w (PlacePost w (plZn size zs m) (plEr size zs m) (plCs size zs m)) := by
  have B0 := (Blk.new w #[.int .i64 size, .slice A n c, .int .i64 lf, .bool dw, .int .i64 dn] 36).alloc (.cells #[.int .i64 m] 3)
  have B1 := Blk.new (w.alloc (.cells #[.int .i64 size, .slice A n c, .int .i64 lf, .bool dw, .int .i64 dn] 36)) #[.int .i64 m] 3
  have b0 := ((Below.refl w.heap.size w).alloc (Nat.le_refl _) (.cells #[.int .i64 size, .slice A n c, .int .i64 lf, .bool dw, .int .i64 dn] 36)).alloc (by simp) (.cells #[.int .i64 m] 3)
  have hs0 : ((w.alloc (.cells #[.int .i64 size, .slice A n c, .int .i64 lf, .bool dw, .int .i64 dn] 36)).alloc (.cells #[.int .i64 m] 3)).heap.size = w.heap.size + 2 := by simp
  simp only [World.size_alloc] at B1
  obtain ⟨p0, p1, p2, p3, p4, _⟩ := B0.five
  obtain ⟨q0, _⟩ := B1.one
  replace h := h.below b0
  go_enter Tryd.func28, Tryd.ntmps28
  go_wp2_with fail
  generalize ((w.alloc (.cells #[.int .i64 size, .slice A n c, .int .i64 lf, .bool dw, .int .i64 dn] 36)).alloc (.cells #[.int .i64 m] 3)) = w0 at *
  clear p0 p1 p2 p3 p4 q0
  cases hd : devF size zs with
  | false =>
    have e1 : Hid (plEr size zs m = 1) := by
      show plEr size zs m = 1
      rw [plEr, if_neg (by rw [hd]; simp)]
    have e2 : Hid (plZn size zs m = 0 ∧ plCs size zs m = []) := by
      constructor
      · rw [plZn, if_neg (by rw [e1.out]; decide)]
      · rw [plCs, if_neg (by rw [e1.out]; decide)]
    refine (dCheck_at size lf dn dw A n c zs false w0 h hd).mono ?_
    rintro e w1 ⟨rfl, b1⟩
    go_wp2
    refine bodyPost_ret (results_tmp3 rfl _ _ _) rfl ?_
    exact PlacePost.none e2.out.1 e1.out e2.out.2 (b0.trans (b1.mono b0.size))
  | true =>
    refine (dCheck_at size lf dn dw A n c zs true w0 h hd).mono ?_
    rintro e w1 ⟨rfl, b1⟩
    have hw1 : w0.heap.size ≤ w1.heap.size := b1.size
    replace B0 := B0.under b1
    replace B1 := B1.under b1
    replace h := h.below b1
    replace b0 := b0.trans (b1.mono b0.size)
    obtain ⟨p0, p1, p2, p3, p4, _⟩ := B0.five
    obtain ⟨q0, _⟩ := B1.one
    by_cases hm : 1 ≤ m ∧ m ≤ size
    · have hp : devF size zs = true ∧ 1 ≤ m ∧ m ≤ size := ⟨hd, hm⟩
      obtain ⟨hm1, hm2⟩ := hm
      go_wp2_with fail
      refine (gIndex_any 51 #[.pointer (some ⟨w.heap.size, 0, none⟩), .pointer (some ⟨w.heap.size + 1, 0, none⟩)] (roomy size m) A n c zs w1 h (fun _ _ => by kernel_rfl) (fun z Ai ci w' hb => gPlace1_any z Ai ci size lf dn m dw A n c _ _ _ w' (B0.under hb) (B1.under hb))).mono ?_
      rintro e w2 ⟨rfl, b2⟩
      clear p0 p1 p2 p3 p4 q0
      replace B0 := B0.under b2
      replace h := h.below b2
      replace b0 := b0.trans (b2.mono b0.size)
      obtain ⟨p0, p1, p2, p3, p4, _⟩ := B0.five
      obtain ⟨i, hi⟩ : ∃ x, Hid (x = idxF (roomy size m) zs) := ⟨_, rfl⟩
      rw [← hi.out]
      by_cases hi0 : 0 ≤ i
      · have e1 : Hid (plEr size zs m = 0) := by
          show plEr size zs m = 0
          rw [plEr, if_pos hp, ← hi.out, if_pos (show 0 ≤ i by omega)]
        have e2 : Hid (plZn size zs m = i ∧ plCs size zs m = []) := by
          constructor
          · rw [plZn, if_pos e1.out, ← hi.out, if_pos (show 0 ≤ i by omega)]
          · rw [plCs, if_pos e1.out, ← hi.out, if_pos (show 0 ≤ i by omega)]
        clear hp
        go_wp2
        refine bodyPost_ret (results_tmp3 rfl _ _ _) rfl ?_
        exact PlacePost.none e2.out.1 e1.out e2.out.2 b0
      · go_wp2_with fail
        refine (gIndex_any 46 #[] isE A n c zs w2 h (fun _ _ => by kernel_rfl) (fun z Ai ci w' hb => gisEmpty_any z.st z.rs z.la Ai z.l.length ci w')).mono ?_
        rintro e w3 ⟨rfl, b3⟩
        clear p0 p1 p2 p3 p4
        replace B0 := B0.under b3
        replace h := h.below b3
        replace b0 := b0.trans (b3.mono b0.size)
        obtain ⟨p0, p1, p2, p3, p4, _⟩ := B0.five
        obtain ⟨j, hj⟩ : ∃ x, Hid (x = idxF isE zs) := ⟨_, rfl⟩
        rw [← hj.out]
        by_cases hj0 : j < 0
        · have e1 : Hid (plEr size zs m = 60) := by
            show plEr size zs m = 60
            rw [plEr, if_pos hp, ← hi.out, if_neg (show ¬ 0 ≤ i by omega), ← hj.out, if_pos (show j < 0 by omega)]
          have e2 : Hid (plZn size zs m = 0 ∧ plCs size zs m = []) := by
            constructor
            · rw [plZn, if_neg (by rw [e1.out]; decide)]
            · rw [plCs, if_neg (by rw [e1.out]; decide)]
          clear hp
          go_wp2
          refine bodyPost_ret (results_tmp3 rfl _ _ _) rfl ?_
          exact PlacePost.none e2.out.1 e1.out e2.out.2 b0
        · have e1 : Hid (plEr size zs m = 0) := by
            show plEr size zs m = 0
            rw [plEr, if_pos hp, ← hi.out, if_neg (show ¬ 0 ≤ i by omega), ← hj.out, if_neg (show ¬ j < 0 by omega)]
          have e2 : Hid (plZn size zs m = j) := by
            show plZn size zs m = j
            rw [plZn, if_pos e1.out, ← hi.out, if_neg (show ¬ 0 ≤ i by omega), ← hj.out]
          clear hp
          obtain ⟨o, ho⟩ : ∃ x, Hid (x = openF zs) := ⟨_, rfl⟩
          go_wp2_with fail
          refine (dOpen_at size lf dn dw A n c zs (o : Int) w3 h (by rw [ho.out])).mono ?_
          rintro e w4 ⟨rfl, b4⟩
          clear p0 p1 p2 p3 p4
          replace B0 := B0.under b4
          replace h := h.below b4
          replace b0 := b0.trans (b4.mono b0.size)
          obtain ⟨p0, p1, p2, p3, p4, _⟩ := B0.five
          by_cases ho3 : (o : Int) < 3
          · have e3 : Hid (plCs size zs m = []) := by
              show plCs size zs m = []
              rw [plCs, if_pos e1.out, ← hi.out, if_neg (show ¬ 0 ≤ i by omega), ← ho.out, if_pos (by omega)]
            clear ho
            go_wp2
            refine bodyPost_ret (results_tmp3 rfl _ _ _) rfl ?_
            exact PlacePost.none e2.out e1.out e3.out b0
          · have e3 : Hid (plCs size zs m = [⟨3, idxF isO zs, []⟩]) := by
              show plCs size zs m = [⟨3, idxF isO zs, []⟩]
              rw [plCs, if_pos e1.out, ← hi.out, if_neg (show ¬ 0 ≤ i by omega), ← ho.out, if_neg (by omega)]
            clear ho
            go_wp2_with fail
            refine (gIndex_any 52 #[] isO A n c zs w4 h (fun _ _ => by kernel_rfl) (fun z Ai ci w' hb => gisOpen_any z.st z.rs z.la Ai z.l.length ci w')).mono ?_
            rintro e w5 ⟨rfl, b5⟩
            replace b0 := b0.trans (b5.mono b0.size)
            obtain ⟨k, hk⟩ : ∃ x, Hid (x = idxF isO zs) := ⟨_, rfl⟩
            rw [← hk.out] at e3 ⊢
            clear p0 p1 p2 p3 p4
            go_wp2
            refine bodyPost_ret (results_tmp3 rfl _ _ _) rfl ?_
            have hL := Rq.lit (E := recE) (F := fun b => w.heap.size ≤ b ∧ b < w5.heap.size) (x := ⟨3, k, []⟩) w5 w.heap.size 60 b0.size ⟨none, 0, rfl, Sl.nil _, fun h => absurd h (by simp)⟩ (fun b _ hb => by omega)
            rw [e1.out, e2.out, e3.out]
            exact ⟨_, _, rfl, hL.imp (fun b _ hb => hb.1), b0.alloc b0.size _⟩
    · have e1 : Hid (plEr size zs m = 1) := by
        show plEr size zs m = 1
        rw [plEr, if_neg (fun hh => hm hh.2)]
      have e2 : Hid (plZn size zs m = 0 ∧ plCs size zs m = []) := by
        constructor
        · rw [plZn, if_neg (by rw [e1.out]; decide)]
        · rw [plCs, if_neg (by rw [e1.out]; decide)]
      by_cases hm1 : m < 1
      · go_wp2
        refine bodyPost_ret (results_tmp3 rfl _ _ _) rfl ?_
        exact PlacePost.none e2.out.1 e1.out e2.out.2 b0
      · have hm2 : size < m := by omega
        go_wp2
        refine bodyPost_ret (results_tmp3 rfl _ _ _) rfl ?_
        exact PlacePost.none e2.out.1 e1.out e2.out.2 b0
end Go.Proofs.YtnejiclghnigiaaDoor
namespace Go.Wag

/-- The bits of a whole number as a float of 64 bits. -/
def fl (n : Nat) : Nat := floatOfInt .f64 (n : Int)
theorem fl_back_all : (List.range 1025).all (fun n => floatToIntVal .f64 (fl n) .i64 == some (n : Int)) = true := by decide +kernel
theorem fl_eq_all : (List.range 1025).all (fun n => FloatKind.f64.format.order (fl n) (fl n) == some .eq) = true := by decide +kernel
theorem fl_back {n : Nat} (h : n ≤ 1024) : floatToIntVal .f64 (fl n) .i64 = some (n : Int) := by
  have := List.all_eq_true.1 fl_back_all n (List.mem_range.2 (by omega))
  simpa using this
theorem fl_eq {n : Nat} (h : n ≤ 1024) : (FloatKind.f64.format.order (fl n) (fl n) == some .eq) = true := List.all_eq_true.1 fl_eq_all n (List.mem_range.2 (by omega))
end Go.Wag
namespace Go.Proofs.YtnejiclghnigiaaDoor
open Go.RowKit Go.Wag
set_option linter.unusedVariables false
set_option maxRecDepth 20000

def emptyF (zs : List Zp) : Nat := zs.countP isE

set_option maxHeartbeats 1000000 in
theorem gEmpty_any {F : Nat → Prop} (size lf dn : Int) (dw : Bool) (A : Option Addr) (n c : Nat) (zs : List Zp) (w : World) (h : Zs F w A n c zs) :
    Calls Tryd.prog 26 #[.agg #[.int .i64 size, .slice A n c, .int .i64 lf, .bool dw, .int .i64 dn]] w fun e w' => e = .returned (.int .i64 (emptyF zs : Int)) ∧ Below w.heap.size w w' := by
  have hlen := h.len
  subst hlen
  have hbig := h.big
  have hcap := h.cap
  go_enter Tryd.func26, Tryd.ntmps26
  go_wp2_with fail
  have B0 := Blk.new w #[.int .i64 size, .slice A zs.length c, .int .i64 lf, .bool dw, .int .i64 dn] 36
  have b0 := (Below.refl w.heap.size w).alloc (Nat.le_refl _) (.cells #[.int .i64 size, .slice A zs.length c, .int .i64 lf, .bool dw, .int .i64 dn] 36)
  generalize w.alloc (.cells #[.int .i64 size, .slice A zs.length c, .int .i64 lf, .bool dw, .int .i64 dn] 36) = w0 at *
  go_loopg [3, 9] zs.length (fun g s i wr => ∃ k m : Nat, k + g = zs.length ∧ m ≤ k ∧ s = .int .i64 (m : Int) ∧ i = .int .i64 (k : Int) ∧ Aside (emptyF (zs.take k) = m) ∧ Below w0.heap.size w0 wr)
  case atStart => exact ⟨0, 0, by omega, Nat.le_refl _, rfl, rfl, rfl, Below.refl _ _⟩
  case round =>
    obtain ⟨k, m, hk, hmk, rfl, rfl, hall, bb⟩ := hrel
    by_cases hlt : (k : Int) < (zs.length : Int)
    · obtain ⟨g, rfl⟩ : ∃ g, gk = g + 1 := ⟨gk - 1, by omega⟩
      obtain ⟨gb, o, z, Ai, ci, rfl, hF, hg, hz, c0', c1', c2', c3', hS, hA⟩ := h.at_ (show k < zs.length by omega)
      have hbw := b0.trans (bb.mono b0.size)
      have c0 := (hbw.cell hg).trans c0'
      have c1 := (hbw.cell hg).trans c1'
      have c2 := (hbw.cell hg).trans c2'
      have c3 := (hbw.cell hg).trans c3'
      have hk1 : Aside (zs.take (k + 1) = zs.take k ++ [z]) := by
        show zs.take (k + 1) = zs.take k ++ [z]
        rw [List.take_add_one, hz]; rfl
      clear c0' c1' c2' c3' hz
      go_wp2_with fail
      have Bz := Blk.new wr #[.int .i64 z.st, .int .i64 z.rs, .slice Ai z.l.length ci, .int .i64 z.la] 56
      have b1 := bb.alloc bb.size (.cells #[.int .i64 z.st, .int .i64 z.rs, .slice Ai z.l.length ci, .int .i64 z.la] 56)
      generalize wr.alloc (.cells #[.int .i64 z.st, .int .i64 z.rs, .slice Ai z.l.length ci, .int .i64 z.la] 56) = w1 at *
      refine (gisEmpty_any z.st z.rs z.la Ai z.l.length ci w1).mono ?_
      rintro e w2 ⟨rfl, b2⟩
      replace b1 := b1.trans (b2.mono b1.size)
      clear c0 c1 c2 c3 Bz
      by_cases hst : z.st = 0
      · rw [decide_eq_true hst]
        go_wp2
        go_roundg g
        case measure => omega
        case rel =>
          refine ⟨k + 1, m + 1, by omega, by omega, by first | rfl | (simp; done), by first | rfl | (simp; done), ?_, b1⟩
          show emptyF _ = _
          rw [hk1.out, emptyF, List.countP_append, ← emptyF, hall.out]
          simp [isE, hst]
      · rw [decide_eq_false hst]
        go_wp2
        go_roundg g
        case measure => omega
        case rel =>
          refine ⟨k + 1, m, by omega, by omega, by first | rfl | (simp; done), by first | rfl | (simp; done), ?_, b1⟩
          show emptyF _ = _
          rw [hk1.out, emptyF, List.countP_append, ← emptyF, hall.out]
          simp [isE, hst]
    · have hkk : k = zs.length := by omega
      subst hkk
      have ha := hall.out
      rw [List.take_length] at ha
      go_wp2
      go_ret
      exact ⟨by subst ha; rfl, b0.trans (bb.mono b0.size)⟩

theorem iCmd : ∃ i, Tryd.prog.info? 60 = some i ∧ i.zero = some (.agg #[.int .i64 0, .int .i64 0, .slice none 0 0]) ∧ i.size = 3 ∧ i.bytes = 40 := by
  refine ⟨_, rfl, ?_, ?_, ?_⟩
  · kernel_rfl
  · kernel_rfl
  · kernel_rfl

/-- A place: a zone's number, and the bytes ahead. -/
def cpx (zn at_ : Int) : Value := .complex .f64 (floatOfInt .f64 zn) (floatOfInt .f64 at_)
def zlen (zs : List Zp) (zn : Int) : Int := ((zs[zn.toNat]?).elim 0 (fun z => (z.l.length : Int)))
theorem zlen_at {zs : List Zp} {k : Nat} {z : Zp} (h : zs[k]? = some z) : zlen zs (k : Int) = z.l.length := by
  simp [zlen, h]
/-- A plan's error, zone, place and commands. -/
def pnEr (size : Int) (zs : List Zp) (r : Rp) : Int := if r.ok = true then plEr size zs (recB r).length else 50
def pnZn (size : Int) (zs : List Zp) (r : Rp) : Int := plZn size zs (recB r).length
def pnCs (size : Int) (zs : List Zp) (r : Rp) : List Rp := plCs size zs (recB r).length ++ [⟨1, pnZn size zs r, recB r⟩]

theorem plZn_in {size : Int} {zs : List Zp} {m : Int} (h : plEr size zs m = 0) : ∃ (k : Nat) (z : Zp), plZn size zs m = k ∧ k < zs.length ∧ zs[k]? = some z := by
  rw [plZn, if_pos h]
  rw [plEr] at h
  split at h
  · split at h
    · rename_i h1
      rw [if_pos h1]
      rcases idx_cases (roomy size m) zs with ⟨h2, _⟩ | ⟨k, z, h2, h3, h4, _⟩
      · omega
      · exact ⟨k, z, h2, h3, h4⟩
    · rename_i h1
      rw [if_neg h1]
      rcases idx_cases isE zs with ⟨h2, _⟩ | ⟨k, z, h2, h3, h4, _⟩
      · rw [if_pos (by omega)] at h
        omega
      · exact ⟨k, z, h2, h3, h4⟩
  · omega
theorem plCs_len (size : Int) (zs : List Zp) (m : Int) : (plCs size zs m).length ≤ 1 := by
  rw [plCs]
  split
  · split
    · simp
    · split <;> simp
  · simp

def PlanNo (w : World) (er : Int) (e : Ending) (w' : World) : Prop :=
  e = .returned (.tuple #[.complex .f64 0 0, .slice none 0 0, .int .i64 er]) ∧ Below w.heap.size w w'
def PlanOk (w : World) (zn at_ : Int) (cs : List Rp) (e : Ending) (w' : World) : Prop :=
  ∃ A c, e = .returned (.tuple #[cpx zn at_, .slice A cs.length c, .int .i64 0]) ∧ Rs recE (fun b => w.heap.size ≤ b) w' A cs.length c cs ∧ Below w.heap.size w w'

set_option maxHeartbeats 2000000 in
theorem gplan_no {F : Nat → Prop} (size lf dn : Int) (dw : Bool) (A : Option Addr) (n c : Nat) (zs : List Zp) (r : Rp) (Ar : Option Addr) (cr : Nat) (er : Int) (w : World) (hT : Tab w) (h : Zs F w A n c zs) (hr : Sl w Ar r.l.length cr (r.l.map v8)) (he : pnEr size zs r = er) (hne : er ≠ 0) :
    Calls Tryd.prog 33 #[.agg #[.int .i64 size, .slice A n c, .int .i64 lf, .bool dw, .int .i64 dn], .agg #[.int .i64 r.k, .int .i64 r.s, .slice Ar r.l.length cr]] w (PlanNo w er) := by
  have B0 := (Blk.new w #[.int .i64 size, .slice A n c, .int .i64 lf, .bool dw, .int .i64 dn] 36).alloc (.cells #[.int .i64 r.k, .int .i64 r.s, .slice Ar r.l.length cr] 26)
  have B1 := Blk.new (w.alloc (.cells #[.int .i64 size, .slice A n c, .int .i64 lf, .bool dw, .int .i64 dn] 36)) #[.int .i64 r.k, .int .i64 r.s, .slice Ar r.l.length cr] 26
  have b0 := ((Below.refl w.heap.size w).alloc (Nat.le_refl _) (.cells #[.int .i64 size, .slice A n c, .int .i64 lf, .bool dw, .int .i64 dn] 36)).alloc (by simp) (.cells #[.int .i64 r.k, .int .i64 r.s, .slice Ar r.l.length cr] 26)
  simp only [World.size_alloc] at B1
  obtain ⟨p0, p1, p2, p3, p4, _⟩ := B0.five
  obtain ⟨q0, q1, q2, _⟩ := B1.three
  replace h := h.below b0
  replace hr := hr.below b0
  replace hT := hT.below b0
  go_enter Tryd.func33, Tryd.ntmps33
  go_wp2_with fail
  generalize ((w.alloc (.cells #[.int .i64 size, .slice A n c, .int .i64 lf, .bool dw, .int .i64 dn] 36)).alloc (.cells #[.int .i64 r.k, .int .i64 r.s, .slice Ar r.l.length cr] 26)) = w0 at *
  clear p0 p1 p2 p3 p4 q0 q1 q2
  cases hk : r.ok with
  | false =>
    have e1 : Hid (er = 50) := by
      show er = 50
      rw [← he, pnEr, if_neg (by rw [hk]; decide)]
    refine (BytesErr.no (rWrite_any r.k r.s Ar r.l.length cr r.l w0 hT hr) (wrF_no hk)).mono ?_
    rintro e w1 ⟨A1, n1, c1, rfl, s1, f1, b1⟩
    go_wp2
    refine bodyPost_ret (results_tmp3 rfl _ _ _) rfl ?_
    rw [e1.out]
    exact ⟨rfl, b0.trans (b1.mono b0.size)⟩
  | true =>
    have e1 : Hid (plEr size zs ((recB r).length : Int) = er) := by
      show plEr size zs ((recB r).length : Int) = er
      rw [← he, pnEr, if_pos hk]
    refine (BytesErr.ok (rWrite_any r.k r.s Ar r.l.length cr r.l w0 hT hr) (wrF_yes hk)).mono ?_
    rintro e w1 ⟨A1, n1, c1, rfl, s1, f1, b1⟩
    have hn1 : (recB r).length = n1 := s1.len8
    rw [hn1] at e1
    replace B0 := B0.under b1
    replace h := h.below b1
    replace b0 := b0.trans (b1.mono b0.size)
    obtain ⟨p0, p1, p2, p3, p4, _⟩ := B0.five
    go_wp2_with fail
    refine (gPlace_any size lf dn (n1 : Int) dw A n c zs w1 h).mono ?_
    rintro e w2 ⟨A2, c2, rfl, R2, b2⟩
    rw [e1.out]
    clear p0 p1 p2 p3 p4
    go_wp2
    refine bodyPost_ret (results_tmp3 rfl _ _ _) rfl ?_
    exact ⟨rfl, b0.trans (b2.mono b0.size)⟩

set_option maxHeartbeats 2000000 in
theorem gplan_ok {F : Nat → Prop} (size lf dn : Int) (dw : Bool) (A : Option Addr) (n c : Nat) (zs : List Zp) (r : Rp) (Ar : Option Addr) (cr : Nat) (zn at_ : Int) (cs : List Rp) (w : World) (hT : Tab w) (h : Zs F w A n c zs) (hr : Sl w Ar r.l.length cr (r.l.map v8)) (he : pnEr size zs r = 0) (hz : pnZn size zs r = zn) (hat : zlen zs zn = at_) (hcs : pnCs size zs r = cs) :
    Calls Tryd.prog 33 #[.agg #[.int .i64 size, .slice A n c, .int .i64 lf, .bool dw, .int .i64 dn], .agg #[.int .i64 r.k, .int .i64 r.s, .slice Ar r.l.length cr]] w (PlanOk w zn at_ cs) := by
  obtain ⟨iC, hiC, hzC, hsC, hbC⟩ := iCmd
  have B0 := (Blk.new w #[.int .i64 size, .slice A n c, .int .i64 lf, .bool dw, .int .i64 dn] 36).alloc (.cells #[.int .i64 r.k, .int .i64 r.s, .slice Ar r.l.length cr] 26)
  have B1 := Blk.new (w.alloc (.cells #[.int .i64 size, .slice A n c, .int .i64 lf, .bool dw, .int .i64 dn] 36)) #[.int .i64 r.k, .int .i64 r.s, .slice Ar r.l.length cr] 26
  have b0 := ((Below.refl w.heap.size w).alloc (Nat.le_refl _) (.cells #[.int .i64 size, .slice A n c, .int .i64 lf, .bool dw, .int .i64 dn] 36)).alloc (by simp) (.cells #[.int .i64 r.k, .int .i64 r.s, .slice Ar r.l.length cr] 26)
  simp only [World.size_alloc] at B1
  obtain ⟨p0, p1, p2, p3, p4, _⟩ := B0.five
  obtain ⟨q0, q1, q2, _⟩ := B1.three
  replace h := h.below b0
  replace hr := hr.below b0
  replace hT := hT.below b0
  go_enter Tryd.func33, Tryd.ntmps33
  go_wp2_with fail
  generalize ((w.alloc (.cells #[.int .i64 size, .slice A n c, .int .i64 lf, .bool dw, .int .i64 dn] 36)).alloc (.cells #[.int .i64 r.k, .int .i64 r.s, .slice Ar r.l.length cr] 26)) = w0 at *
  clear p0 p1 p2 p3 p4 q0 q1 q2
  have hk : r.ok = true := by
    cases hk : r.ok with
    | true => rfl
    | false =>
      rw [pnEr, if_neg (by rw [hk]; decide)] at he
      omega
  have e1 : Hid (plEr size zs ((recB r).length : Int) = 0) := by
    show plEr size zs ((recB r).length : Int) = 0
    rw [← he, pnEr, if_pos hk]
  obtain ⟨kz, z, hkz, hkl, hkg⟩ := plZn_in e1.out
  have hzk : zn = (kz : Int) := by rw [← hz, pnZn, hkz]
  subst hzk
  have hat2 : at_ = (z.l.length : Int) := by rw [← hat, zlen_at hkg]
  subst hat2
  obtain ⟨cs0, hcs0⟩ : ∃ x, Hid (x = plCs size zs ((recB r).length : Int)) := ⟨_, rfl⟩
  have hcl : Hid (cs0.length ≤ 1) := by
    show cs0.length ≤ 1
    rw [hcs0.out]
    exact plCs_len _ _ _
  have hcs2 : Hid (cs = cs0 ++ [⟨1, (kz : Int), recB r⟩]) := by
    show cs = _
    rw [← hcs, pnCs, hz, hcs0.out]
  clear hcs hz hat he
  refine (BytesErr.ok (rWrite_any r.k r.s Ar r.l.length cr r.l w0 hT hr) (wrF_yes hk)).mono ?_
  rintro e w1 ⟨A1, n1, c1, rfl, s1, f1, b1⟩
  have hn1' : (recB r).length = n1 := s1.len8
  rw [hn1'] at e1 hcs0 hkz
  have hn1 : Hid ((recB r).length = n1) := hn1'
  clear hn1'
  replace B0 := B0.under b1
  replace h := h.below b1
  have hw1 := Nat.le_trans b0.size b1.size
  have hb00 := b0.size
  replace b0 := b0.trans (b1.mono b0.size)
  obtain ⟨p0, p1, p2, p3, p4, _⟩ := B0.five
  go_wp2_with fail
  refine (gPlace_any size lf dn (n1 : Int) dw A n c zs w1 h).mono ?_
  rintro e w2 ⟨A2, c2, rfl, R2, b2⟩
  rw [e1.out, hkz, ← hcs0.out]
  rw [← hcs0.out] at R2
  clear p0 p1 p2 p3 p4 e1
  have S2 := s1.below b2
  replace B0 := B0.under b2
  replace h := h.below b2
  replace b0 := b0.trans (b2.mono b0.size)
  obtain ⟨p0, p1, p2, p3, p4, _⟩ := B0.five
  have hcap := h.cap
  have hbig := h.big
  have hlen := h.len
  obtain ⟨gb, o, z', Ai, ci, rfl, hF, hg, hz', c0, c1', c2', c3, hS, hA⟩ := h.at_ (show kz < n by omega)
  obtain rfl : z = z' := by
    rw [hkg] at hz'
    exact Option.some.inj hz'
  clear hkg hz' hF hA
  have hzcap := hS.cap
  have hzbig := hS.big
  have hkl2 : kz < n := by omega
  have hlt2 := R2.lt
  have hrd : recE.rd (fun b => w.heap.size ≤ b ∧ (Value.slice A2 cs0.length c2).ownBlock ≠ some b) w2 [.int .i64 1, .int .i64 (kz : Int), .slice A1 n1 c1] ⟨1, (kz : Int), recB r⟩ := by
    refine ⟨A1, c1, by rw [hn1.out], by rw [hn1.out]; exact S2, fun hne ad e => ?_⟩
    obtain ⟨ad', e', hb', _⟩ := s1.cells (by have := hn1.out; simp only at hne; omega)
    cases e.symm.trans e'
    refine ⟨?_, fun e2 => by have := (hlt2 _ e2).1; omega⟩
    rcases f1.2 with ⟨hv, _⟩ | ⟨g, cap, cur, hv, hb, _⟩
    · subst e
      simp at hv
    · subst e
      simp only [Value.slice.injEq, Option.some.injEq] at hv
      rw [hv.1]
      exact Nat.le_trans hb00 hb
  clear s1 f1 S2 hlt2
  have a1 := (Below.refl w2.heap.size w2).alloc (Nat.le_refl _) (.cells #[.int .i64 1, .int .i64 (kz : Int), .slice A1 n1 c1] 60)
  have Bs := Blk.new w2 #[.int .i64 1, .int .i64 (kz : Int), .slice A1 n1 c1] 60
  have R3 := (R2.imp (F' := fun b => w.heap.size ≤ b) (fun b _ hb => Nat.le_trans hw1 hb)).under a1
  replace hrd := Elt.below hrd a1
  have hs3 := Nat.le_trans b2.size a1.size
  have hcl1 := hcl.out
  obtain ⟨A5, c5, w5, hrun, R5, gr, hlies⟩ := R3.app (P := Tryd.prog) (T := 67) (ty := 67) Tryd.underlying67 hiC hzC hsC hbC rfl hs3 (by omega) (by omega) hrd (one_rec _ _ _ _ _) Bs
  have hlt3 := R3.lt
  have b5 := (b0.alloc b0.size (.cells #[.int .i64 1, .int .i64 (kz : Int), .slice A1 n1 c1] 60)).grown gr (Nat.le_trans b0.size a1.size) (fun x hx => by have := (hlt3 x hx).1; omega)
  clear hlt3 hcl1 R3 hlies Bs hrd gr a1 R2 hcl hS
  go_wp2_with (at_builtin; first | (refine wpList_run rfl (.tmp 43) (.tmp 47) 67 rfl rfl rfl hrun ?_; intro _))
  refine bodyPost_ret (results_tmp3 rfl _ _ _) rfl ?_
  have hl5 : cs.length = cs0.length + 1 := by rw [hcs2.out]; simp
  refine ⟨A5, c5, ?_, ?_, b5⟩
  · rw [hl5]
    rfl
  · rw [hl5, hcs2.out]
    exact R5.toRs (fun b _ hb => Nat.le_trans hw1 hb)
end Go.Proofs.YtnejiclghnigiaaDoor
namespace Go.Wag
open Go.RowKit
set_option linter.unusedVariables false
set_option maxRecDepth 20000
/-- A row of single values. -/
def cellE {α : Type} (f : α → Value) : Elt α where
  k := 1
  rd _ _ vs x := vs = [f x]
  pos := by decide
  len := fun h => by rw [h]; rfl
  keep := fun h _ _ => h
  imp := fun h _ => h
end Go.Wag
namespace Go.Proofs.YtnejiclghnigiaaDoor
open Go.RowKit Go.Wag
set_option linter.unusedVariables false
set_option maxRecDepth 20000

/-- A device's state beside its size. -/
structure Dp where
  lf : Int
  dn : Int
  dw : Bool
  zs : List Zp
def doS (size : Int) (d : Dp) (c : Rp) : Dp := ⟨ruLf size d.lf d.dw d.zs, ruDn size d.lf d.dn d.dw d.zs, ruDw size d.lf d.dw d.zs, ruZs size d.lf d.dw d.zs c.k c.s c.l⟩
def doE (size : Int) (d : Dp) (c : Rp) : Int := ruEr size d.lf d.dw d.zs c.k c.s c.l
/-- A device behind commands, up to the first error. -/
def doAll (size : Int) (d : Dp) : List Rp → Dp × Int
  | [] => (d, 0)
  | c :: cs => if doE size d c = 0 then doAll size (doS size d c) cs else (doS size d c, doE size d c)
/-- A device behind records, their places, and the error. -/
def apS (size : Int) (d : Dp) : List Rp → Dp × List (Int × Int) × Int
  | [] => (d, [], 0)
  | r :: rs => if pnEr size d.zs r = 0 then (if (doAll size d (pnCs size d.zs r)).2 = 0 then
        ((apS size (doAll size d (pnCs size d.zs r)).1 rs).1, (pnZn size d.zs r, zlen d.zs (pnZn size d.zs r)) :: (apS size (doAll size d (pnCs size d.zs r)).1 rs).2.1, (apS size (doAll size d (pnCs size d.zs r)).1 rs).2.2)
      else ((doAll size d (pnCs size d.zs r)).1, [], (doAll size d (pnCs size d.zs r)).2)) else (d, [], pnEr size d.zs r)
def apAt (pl : List (Int × Int)) (y : Dp × List (Int × Int) × Int) : Dp × List (Int × Int) × Int := (y.1, pl ++ y.2.1, y.2.2)
theorem apAt_nil (y : Dp × List (Int × Int) × Int) : apAt [] y = y := rfl
theorem apAt_no {size : Int} {d : Dp} {r : Rp} {rs : List Rp} {pl : List (Int × Int)} {er : Int} (h : pnEr size d.zs r = er) (hne : er ≠ 0) : apAt pl (apS size d (r :: rs)) = (d, pl, er) := by
  rw [apS, if_neg (by omega), h]
  simp [apAt]
theorem apAt_bad {size : Int} {d d' : Dp} {r : Rp} {rs : List Rp} {pl : List (Int × Int)} {er : Int} (h : pnEr size d.zs r = 0) (hd : doAll size d (pnCs size d.zs r) = (d', er)) (hne : er ≠ 0) : apAt pl (apS size d (r :: rs)) = (d', pl, er) := by
  rw [apS, if_pos h, hd, if_neg hne]
  simp [apAt]
theorem apAt_ok {size : Int} {d d' : Dp} {r : Rp} {rs : List Rp} {pl : List (Int × Int)} {zn at_ : Int} (h : pnEr size d.zs r = 0) (hd : doAll size d (pnCs size d.zs r) = (d', 0)) (hz : pnZn size d.zs r = zn) (ha : zlen d.zs zn = at_) : apAt pl (apS size d (r :: rs)) = apAt (pl ++ [(zn, at_)]) (apS size d' rs) := by
  rw [apS, if_pos h, hd, if_pos rfl, hz, ha]
  simp [apAt]
theorem ru_lf {size lf : Int} {dw : Bool} {zs : List Zp} (h : lf < 9223372036854775808) : ruLf size lf dw zs < 9223372036854775808 := by
  unfold ruLf
  split
  · split <;> omega
  · exact h
theorem doS_ok {size : Int} {d : Dp} (c : Rp) (h : devF size d.zs = true ∧ d.lf < 9223372036854775808) : devF size (doS size d c).zs = true ∧ (doS size d c).lf < 9223372036854775808 := ⟨dev_ru d.lf d.dw c.k c.s c.l h.1, ru_lf h.2⟩
theorem pnCs_small {size : Int} {zs : List Zp} {r : Rp} (h : pnEr size zs r = 0) : ∀ c ∈ pnCs size zs r, c.l.length ≤ 10000 := by
  intro c hc
  rw [pnCs, List.mem_append] at hc
  rcases hc with hc | hc
  · rw [plCs] at hc
    split at hc
    · split at hc
      · simp at hc
      · split at hc
        · simp at hc
        · simp only [List.mem_singleton] at hc
          subst hc
          simp
    · simp at hc
  · simp only [List.mem_singleton] at hc
    subst hc
    simp only
    rw [recB_length]
    have : r.ok = true := by
      cases hk : r.ok with
      | true => rfl
      | false =>
        rw [pnEr, if_neg (by rw [hk]; decide)] at h
        omega
    have := (Rp.all this).2.2.2.2
    omega

abbrev cpE : Elt (Int × Int) := cellE (fun x : Int × Int => cpx x.1 x.2)
theorem iCpx : ∃ i, Tryd.prog.info? 50 = some i ∧ i.zero = some (.complex .f64 0 0) ∧ i.size = 1 ∧ i.bytes = 16 := by
  refine ⟨_, rfl, ?_, ?_, ?_⟩
  · kernel_rfl
  · kernel_rfl
  · kernel_rfl
theorem one_cpx (a b : Int) : ∀ u ∈ [cpx a b], u.oneCell' = true := by
  intro u hu
  simp only [List.mem_singleton] at hu
  subst hu
  rfl

/-- What Append answers. -/
def LogPost (w : World) (size : Int) (n : Nat) (y : Dp × List (Int × Int) × Int) (e : Ending) (w' : World) : Prop :=
  ∃ A Ap k cp, k = y.2.1.length ∧ e = .returned (.tuple #[.agg #[.int .i64 size, .slice A n n, .int .i64 y.1.lf, .bool y.1.dw, .int .i64 y.1.dn], .slice Ap k cp, .int .i64 y.2.2]) ∧ Zs (fun b => w.heap.size ≤ b) w' A n n y.1.zs ∧ Rs cpE (fun b => w.heap.size ≤ b) w' Ap k cp y.2.1 ∧ Below w.heap.size w w'

/-- What holds between Append's steps: the device in block kd, and the places. -/
structure LgAt (kd : Nat) (size : Int) (n : Nat) (w : World) (A : Option Addr) (d : Dp) (Ap : Option Addr) (k cp : Nat) (pl : List (Int × Int)) : Prop where
  blk : Blk w kd #[.int .i64 size, .slice A n n, .int .i64 d.lf, .bool d.dw, .int .i64 d.dn] 36
  res : Blk w (kd + 1) #[.int .i64 0, .slice none 0 0, .int .i64 0, .bool false, .int .i64 0] 36
  zs : Zs (fun b => kd + 2 ≤ b ∧ (Value.slice Ap k cp).ownBlock ≠ some b) w A n n d.zs
  row : Rq cpE (fun _ => True) (kd + 2) 50 w Ap k cp pl
  ok : devF size d.zs = true ∧ d.lf < 9223372036854775808
theorem LgAt.under {kd n k cp : Nat} {size : Int} {w w' : World} {A Ap : Option Addr} {d : Dp} {pl : List (Int × Int)} (h : LgAt kd size n w A d Ap k cp pl) (hb : Below w.heap.size w w') : LgAt kd size n w' A d Ap k cp pl :=
  ⟨h.blk.under hb, h.res.under hb, h.zs.below hb, h.row.under hb, h.ok⟩
theorem LgAt.big {kd n k cp : Nat} {size : Int} {w : World} {A Ap : Option Addr} {d : Dp} {pl : List (Int × Int)} (h : LgAt kd size n w A d Ap k cp pl) : kd + 2 ≤ w.heap.size := h.res.lt
/-- A new device is laid into the block. -/
theorem LgAt.stored {kd n k cp : Nat} {size : Int} {w0 w : World} {A A' Ap : Option Addr} {d d' : Dp} {pl : List (Int × Int)} (h0 : LgAt kd size n w0 A d Ap k cp pl) (hb : Below w0.heap.size w0 w) (hz : Zs (fun b => w0.heap.size ≤ b) w A' n n d'.zs) (ok : devF size d'.zs = true ∧ d'.lf < 9223372036854775808) :
    LgAt kd size n (((((w.setCell ⟨kd, 0, none⟩ (.int .i64 size)).setCell ⟨kd, 1, none⟩ (.slice A' n n)).setCell ⟨kd, 2, none⟩ (.int .i64 d'.lf)).setCell ⟨kd, 3, none⟩ (.bool d'.dw)).setCell ⟨kd, 4, none⟩ (.int .i64 d'.dn)) A' d' Ap k cp pl := by
  have hs := h0.big
  have hl := h0.row.lt
  have hz2 := hz.imp (F' := fun b => kd + 2 ≤ b ∧ (Value.slice Ap k cp).ownBlock ≠ some b) (fun b _ hb => ⟨by omega, fun e => by have := (hl b e).2; omega⟩)
  have h := h0.under hb
  refine ⟨?_, ?_, ?_, ?_, ok⟩
  · exact ((((h.blk.set 0 _).set 1 _).set 2 _).set 3 _).set 4 _
  · have ne : kd + 1 ≠ kd := by omega
    exact ((((h.res.far (a := ⟨kd, 0, none⟩) ne _).far (a := ⟨kd, 1, none⟩) ne _).far (a := ⟨kd, 2, none⟩) ne _).far (a := ⟨kd, 3, none⟩) ne _).far (a := ⟨kd, 4, none⟩) ne _
  · have ne : ¬ (kd + 2 ≤ kd ∧ (Value.slice Ap k cp).ownBlock ≠ some kd) := fun e => by omega
    exact ((((hz2.far (a := ⟨kd, 0, none⟩) ne _).far (a := ⟨kd, 1, none⟩) ne _).far (a := ⟨kd, 2, none⟩) ne _).far (a := ⟨kd, 3, none⟩) ne _).far (a := ⟨kd, 4, none⟩) ne _
  · have st : ∀ (i : Nat) (u : Value) (w : World), Rq cpE (fun b => kd ≠ b) (kd + 2) 50 w Ap k cp pl → Rq cpE (fun b => kd ≠ b) (kd + 2) 50 (w.setCell ⟨kd, i, none⟩ u) Ap k cp pl := fun i u w hr =>
      hr.grown (grown_set w ⟨kd, i, none⟩ u) (fun b hb e => by have := (hr.lt b hb).1; cases e; simp at this <;> omega) (fun b _ hb e => by cases e; exact hb rfl)
    have hr0 : Rq cpE (fun b => kd ≠ b) (kd + 2) 50 w Ap k cp pl := ⟨h.row.len, h.row.row⟩
    have hr5 := st 4 (.int .i64 d'.dn) _ (st 3 (.bool d'.dw) _ (st 2 (.int .i64 d'.lf) _ (st 1 (.slice A' n n) _ (st 0 (.int .i64 size) _ hr0))))
    exact ⟨hr5.len, hr5.row⟩
/-- The end: the device is laid into the result's block. -/
theorem LgAt.done {kd n k cp : Nat} {size : Int} {w : World} {A Ap : Option Addr} {d : Dp} {pl : List (Int × Int)} (h : LgAt kd size n w A d Ap k cp pl) {B : Nat} (hB : B ≤ kd) :
    ∀ w', w' = (((((w.setCell ⟨kd + 1, 0, none⟩ (.int .i64 size)).setCell ⟨kd + 1, 1, none⟩ (.slice A n n)).setCell ⟨kd + 1, 2, none⟩ (.int .i64 d.lf)).setCell ⟨kd + 1, 3, none⟩ (.bool d.dw)).setCell ⟨kd + 1, 4, none⟩ (.int .i64 d.dn)) →
    Blk w' (kd + 1) #[.int .i64 size, .slice A n n, .int .i64 d.lf, .bool d.dw, .int .i64 d.dn] 36 ∧ Zs (fun b => B ≤ b) w' A n n d.zs ∧ Rs cpE (fun b => B ≤ b) w' Ap k cp pl := by
  rintro _ rfl
  refine ⟨((((h.res.set 0 _).set 1 _).set 2 _).set 3 _).set 4 _, ?_, ?_⟩
  · have ne : ¬ (kd + 2 ≤ kd + 1 ∧ (Value.slice Ap k cp).ownBlock ≠ some (kd + 1)) := fun e => by omega
    exact (((((h.zs.far (a := ⟨kd + 1, 0, none⟩) ne _).far (a := ⟨kd + 1, 1, none⟩) ne _).far (a := ⟨kd + 1, 2, none⟩) ne _).far (a := ⟨kd + 1, 3, none⟩) ne _).far (a := ⟨kd + 1, 4, none⟩) ne _).imp (fun b _ hb => by have := hb.1; omega)
  · have st : ∀ (i : Nat) (u : Value) (w : World), Rq cpE (fun b => kd + 1 < b) (kd + 2) 50 w Ap k cp pl → Rq cpE (fun b => kd + 1 < b) (kd + 2) 50 (w.setCell ⟨kd + 1, i, none⟩ u) Ap k cp pl := fun i u w hr =>
      hr.grown (grown_set w ⟨kd + 1, i, none⟩ u) (fun b hb e => by have := (hr.lt b hb).1; cases e; simp at this <;> omega) (fun b _ hb e => by cases e; simp at hb)
    have hr0 : Rq cpE (fun b => kd + 1 < b) (kd + 2) 50 w Ap k cp pl := ⟨h.row.len, h.row.row⟩
    have hr5 := st 4 (.int .i64 d.dn) _ (st 3 (.bool d.dw) _ (st 2 (.int .i64 d.lf) _ (st 1 (.slice A n n) _ (st 0 (.int .i64 size) _ hr0))))
    have hr6 : Rq cpE (fun b => B ≤ b) (kd + 2) 50 _ Ap k cp pl := ⟨hr5.len, hr5.row⟩
    exact hr6.toRs (fun b _ hb => by omega)
/-- A place more. -/
theorem LgAt.app {kd n k cp : Nat} {size : Int} {w : World} {A Ap : Option Addr} {d : Dp} {pl : List (Int × Int)} (h : LgAt kd size n w A d Ap k cp pl) (hk : k ≤ 100000) (zn at_ : Int) {s : Nat} (Bs : Blk w s #[cpx zn at_] 50) :
    ∃ A' c' w', (Builtin.append_ #[41, 41] 41 #[.slice Ap k cp, .slice (some ⟨s, 0, none⟩) 1 1]).run Tryd.prog w = .ok (.slice A' (k + 1) c') w' ∧ LgAt kd size n w' A d A' (k + 1) c' (pl ++ [(zn, at_)]) ∧ ∀ (B : Nat) (W : World), B ≤ kd → Below B W w → Below B W w' := by
  obtain ⟨iC, hiC, hzC, hsC, hbC⟩ := iCpx
  have hbig := h.big
  have hlt := h.row.lt
  obtain ⟨A', c', w', hr, R', gr, hl⟩ := h.row.app (P := Tryd.prog) (T := 41) (ty := 41) Tryd.underlying41 hiC hzC hsC hbC rfl hbig (by omega) (by omega) (x := (zn, at_)) (vs := [cpx zn at_]) rfl (one_cpx _ _) Bs
  refine ⟨A', c', w', hr, ⟨?_, ?_, ?_, R', h.ok⟩, fun B W hB hb => hb.grown gr (by omega) (fun x hx => by have := (hlt x hx).1; omega)⟩
  · exact h.blk.same (gr.block _ h.blk.lt (fun e => by have := (hlt _ e.symm).1; omega))
  · exact h.res.same (gr.block _ h.res.lt (fun e => by have := (hlt _ e.symm).1; omega))
  · refine ((h.zs.imp (F' := fun b => (kd + 2 ≤ b ∧ (Value.slice A' (k + 1) c').ownBlock ≠ some b) ∧ (Value.slice Ap k cp).ownBlock ≠ some b) (fun b hb hf => ⟨⟨hf.1, fun e => ?_⟩, hf.2⟩)).keep gr.size (fun p hp hf => World.cell?_of_block (gr.block _ hp (fun e => hf.2 e.symm)))).imp (fun b _ hf => hf.1)
    rcases hl with hl | hl
    · exact hf.2 (hl ▸ e)
    · rw [hl] at e
      have := Option.some.inj e
      omega

set_option maxHeartbeats 4000000 in
theorem gAppend_any {F F2 : Nat → Prop} (size : Int) (d : Dp) (A : Option Addr) (n c : Nat) (Al : Option Addr) (m cl : Nat) (rs : List Rp) (w : World) (hT : Tab w) (h : Zs F w A n c d.zs) (hl : Rs recE F2 w Al m cl rs) (hm : m ≤ 1000) (ok : devF size d.zs = true ∧ d.lf < 9223372036854775808) :
    Calls Tryd.prog 16 #[.agg #[.int .i64 size, .slice A n c, .int .i64 d.lf, .bool d.dw, .int .i64 d.dn], .slice Al m cl] w (LogPost w size n (apS size d rs)) := by
  obtain ⟨yy, hyy⟩ : ∃ y, Hid (y = apS size d rs) := ⟨_, rfl⟩
  rw [← hyy.out]
  obtain ⟨iC, hiC, hzC, hsC, hbC⟩ := iCpx
  have hsm := sm_dev ok.1
  have hlm := hl.len
  have hlc := hl.cap
  have hlb := hl.big
  have a0 := ((Below.refl w.heap.size w).alloc (Nat.le_refl _) (.cells #[.int .i64 size, .slice A n c, .int .i64 d.lf, .bool d.dw, .int .i64 d.dn] 36)).alloc (by simp) (.cells #[.int .i64 0, .slice none 0 0, .int .i64 0, .bool false, .int .i64 0] 36)
  have B0 := (Blk.new w #[.int .i64 size, .slice A n c, .int .i64 d.lf, .bool d.dw, .int .i64 d.dn] 36).alloc (.cells #[.int .i64 0, .slice none 0 0, .int .i64 0, .bool false, .int .i64 0] 36)
  have B1 := Blk.new (w.alloc (.cells #[.int .i64 size, .slice A n c, .int .i64 d.lf, .bool d.dw, .int .i64 d.dn] 36)) #[.int .i64 0, .slice none 0 0, .int .i64 0, .bool false, .int .i64 0] 36
  simp only [World.size_alloc] at B1
  obtain ⟨p0, p1, p2, p3, p4, f0, f1, f2, f3, f4⟩ := B0.five
  replace h := h.below a0
  go_enter Tryd.func16, Tryd.ntmps16
  go_wp2_with fail
  generalize (w.alloc (.cells #[.int .i64 size, .slice A n c, .int .i64 d.lf, .bool d.dw, .int .i64 d.dn] 36)).alloc (.cells #[.int .i64 0, .slice none 0 0, .int .i64 0, .bool false, .int .i64 0] 36) = w0 at *
  refine wp_scope_straight ?_
  go_wp2_with fail
  refine (dLimit_at size d.lf d.dn d.lf d.dw A n c d.zs w0 h hsm).mono ?_
  rintro e w1 ⟨A1, rfl, z1, b1⟩
  clear p0 p1 p2 p3 p4 f0 f1 f2 f3 f4
  have b01 := a0.trans (b1.mono a0.size)
  have hs0 := B1.lt
  replace B0 := B0.under b1
  replace B1 := B1.under b1
  have hk : ∃ k, w.heap.size = k := ⟨_, rfl⟩
  obtain ⟨kd, hkd⟩ := hk
  have hs : LgAt kd size n (((((w1.setCell ⟨kd, 0, none⟩ (.int .i64 size)).setCell ⟨kd, 1, none⟩ (.slice A1 n n)).setCell ⟨kd, 2, none⟩ (.int .i64 d.lf)).setCell ⟨kd, 3, none⟩ (.bool d.dw)).setCell ⟨kd, 4, none⟩ (.int .i64 d.dn)) A1 d none 0 0 [] := by
    rw [hkd] at B0 B1 hs0
    have z2 := z1.imp (F' := fun b => kd + 2 ≤ b ∧ (Value.slice none 0 0).ownBlock ≠ some b) (fun b _ hb => ⟨by omega, fun e => by simp [Value.ownBlock] at e⟩)
    refine ⟨((((B0.set 0 _).set 1 _).set 2 _).set 3 _).set 4 _, ?_, ?_, Rq.nil _ _ _ _ _, ok⟩
    · have ne : kd + 1 ≠ kd := by omega
      exact ((((B1.far (a := ⟨kd, 0, none⟩) ne _).far (a := ⟨kd, 1, none⟩) ne _).far (a := ⟨kd, 2, none⟩) ne _).far (a := ⟨kd, 3, none⟩) ne _).far (a := ⟨kd, 4, none⟩) ne _
    · have ne : ¬ (kd + 2 ≤ kd ∧ (Value.slice none 0 0).ownBlock ≠ some kd) := fun e => by omega
      exact ((((z2.far (a := ⟨kd, 0, none⟩) ne _).far (a := ⟨kd, 1, none⟩) ne _).far (a := ⟨kd, 2, none⟩) ne _).far (a := ⟨kd, 3, none⟩) ne _).far (a := ⟨kd, 4, none⟩) ne _
  have hkl : w.heap.size ≤ kd := by omega
  have bb := ((((b01.setCell (p := ⟨kd, 0, none⟩) hkl (.int .i64 size)).setCell (p := ⟨kd, 1, none⟩) hkl (.slice A1 n n)).setCell (p := ⟨kd, 2, none⟩) hkl (.int .i64 d.lf)).setCell (p := ⟨kd, 3, none⟩) hkl (.bool d.dw)).setCell (p := ⟨kd, 4, none⟩) hkl (.int .i64 d.dn)
  obtain ⟨p0, p1, p2, p3, p4, f0, f1, f2, f3, f4⟩ := B0.five
  rw [hkd] at p0 p1 p2 p3 p4 f0 f1 f2 f3 f4 ⊢
  go_wp2_with fail
  generalize (((((w1.setCell ⟨kd, 0, none⟩ (.int .i64 size)).setCell ⟨kd, 1, none⟩ (.slice A1 n n)).setCell ⟨kd, 2, none⟩ (.int .i64 d.lf)).setCell ⟨kd, 3, none⟩ (.bool d.dw)).setCell ⟨kd, 4, none⟩ (.int .i64 d.dn)) = w2 at *
  clear p0 p1 p2 p3 p4 f0 f1 f2 f3 f4 B0 B1 z1 b1 b01 hs0 a0 h ok hsm
  go_step3
  go_wp2_with fail
  have hy0 : Hid (yy = apAt [] (apS size d (rs.drop 0))) := by
    show yy = _
    rw [hyy.out, List.drop_zero, apAt_nil]
  clear hyy
  go_loopg [7, 8, 21] m (fun g pv ev iv wr => ∃ (k : Nat) (A : Option Addr) (d : Dp) (Ap : Option Addr) (cp : Nat) (pl : List (Int × Int)), k + g = m ∧ pv = .slice Ap k cp ∧ ev = .int .i64 0 ∧ iv = .int .i64 (k : Int) ∧ Hid (yy = apAt pl (apS size d (rs.drop k))) ∧ LgAt kd size n wr A d Ap k cp pl ∧ Below w.heap.size w wr)
  case atStart => exact ⟨0, A1, d, none, 0, [], by omega, rfl, rfl, rfl, hy0, hs, bb⟩
  case round =>
    clear hs bb hy0
    obtain ⟨k, A, d, Ap, cp, pl, hkg, rfl, rfl, rfl, hy, hs, bb⟩ := hrel
    by_cases hlt : (k : Int) < (m : Int)
    · obtain ⟨g, rfl⟩ : ∃ g, gk = g + 1 := ⟨gk - 1, by omega⟩
      obtain ⟨gb, o, r, Ar, cr, rfl, hF, hg, hr, c0', c1', c2', hS, hA⟩ := Rs.rec_at hl (show k < m by omega)
      have c0 := (bb.cell hg).trans c0'
      have c1 := (bb.cell hg).trans c1'
      have c2 := (bb.cell hg).trans c2'
      have hrd : Hid (rs.drop k = r :: rs.drop (k + 1)) := by
        show rs.drop k = _
        rw [List.drop_eq_getElem_cons (by omega)]
        obtain ⟨_, hr2⟩ := List.getElem?_eq_some_iff.1 hr
        rw [hr2]
      clear c0' c1' c2' hr hA hF
      have al := (Below.refl wr.heap.size wr).alloc (Nat.le_refl _) (.cells #[.int .i64 r.k, .int .i64 r.s, .slice Ar r.l.length cr] 26)
      have hs1 := hs.under al
      have Bv := Blk.new wr #[.int .i64 r.k, .int .i64 r.s, .slice Ar r.l.length cr] 26
      have bb1 := bb.alloc bb.size (.cells #[.int .i64 r.k, .int .i64 r.s, .slice Ar r.l.length cr] 26)
      obtain ⟨p0, p1, p2, p3, p4, _⟩ := hs1.blk.five
      obtain ⟨v0, v1, v2, _⟩ := Bv.three
      go_wp2_with fail
      generalize wr.alloc (.cells #[.int .i64 r.k, .int .i64 r.s, .slice Ar r.l.length cr] 26) = w1 at *
      have hT1 := hT.below bb1
      have hS1 := hS.below bb1
      clear p0 p1 p2 p3 p4 v0 v1 v2 c0 c1 c2 hs bb al Bv
      obtain ⟨er, her⟩ : ∃ x, Hid (pnEr size d.zs r = x) := ⟨_, rfl⟩
      by_cases he : er = 0
      · subst he
        obtain ⟨zn, hzn⟩ : ∃ x, Hid (pnZn size d.zs r = x) := ⟨_, rfl⟩
        obtain ⟨at_, hat⟩ : ∃ x, Hid (zlen d.zs zn = x) := ⟨_, rfl⟩
        obtain ⟨cs, hcs⟩ : ∃ x, Hid (pnCs size d.zs r = x) := ⟨_, rfl⟩
        refine (gplan_ok size d.lf d.dn d.dw A n n d.zs r Ar cr zn at_ cs w1 hT1 hs1.zs hS1 her.out hzn.out hat.out hcs.out).mono ?_
        rintro e w2 ⟨A2, c2, rfl, R2, b2⟩
        obtain ⟨fa, fb, hfab⟩ : ∃ a b, Hid (cpx zn at_ = .complex .f64 a b) := ⟨_, _, rfl⟩
        rw [hfab.out]
        have hsm := pnCs_small her.out
        rw [hcs.out] at hsm
        have hsm2 : Aside (∀ c ∈ cs, c.l.length ≤ 10000) := hsm
        clear hsm
        have hcap2 := R2.cap
        have hbig2 := R2.big
        have hk1 := hs1.big
        have hs2 := hs1.under b2
        have bb2 := bb1.trans (b2.mono bb1.size)
        clear hs1 bb1 b2 hT1 hS1
        have hd0 : Hid (doAll size d cs = doAll size d (cs.drop 0)) := rfl
        go_wp2_with fail
        go_loopg [8, 36] cs.length (fun g2 ev jv wr2 => ∃ (j : Nat) (A : Option Addr) (d' : Dp), j + g2 = cs.length ∧ ev = .int .i64 0 ∧ jv = .int .i64 (j : Int) ∧ Hid (doAll size d cs = doAll size d' (cs.drop j)) ∧ LgAt kd size n wr2 A d' Ap k cp pl ∧ Rs recE (fun b => w1.heap.size ≤ b) wr2 A2 cs.length c2 cs ∧ Below w.heap.size w wr2)
        case atStart => exact ⟨0, A, d, by omega, rfl, rfl, hd0, hs2, R2, bb2⟩
        case round =>
          clear hs2 R2 bb2 hd0
          obtain ⟨j, A, d', hjg, rfl, rfl, hd1, hs, R2, bb⟩ := hrel
          by_cases hjlt : (j : Int) < (cs.length : Int)
          · obtain ⟨g2, rfl⟩ : ∃ g, gk = g + 1 := ⟨gk - 1, by omega⟩
            obtain ⟨gx, ox, x, Ax, cx, rfl, hFx, hgx, hx, e0, e1, e2, hSx, hAx⟩ := Rs.rec_at R2 (show j < cs.length by omega)
            have al := (Below.refl wr.heap.size wr).alloc (Nat.le_refl _) (.cells #[.int .i64 x.k, .int .i64 x.s, .slice Ax x.l.length cx] 60)
            have hs1 := hs.under al
            have Bv := Blk.new wr #[.int .i64 x.k, .int .i64 x.s, .slice Ax x.l.length cx] 60
            have R3 := R2.alloc (.cells #[.int .i64 x.k, .int .i64 x.s, .slice Ax x.l.length cx] 60)
            have bb1 := bb.alloc bb.size (.cells #[.int .i64 x.k, .int .i64 x.s, .slice Ax x.l.length cx] 60)
            have hSx1 := hSx.below al
            have hsx : Hid (x.l.length ≤ 10000) := hsm2.out x (List.mem_of_getElem? hx)
            have hxd : Hid (cs.drop j = x :: cs.drop (j + 1)) := by
              show cs.drop j = _
              rw [List.drop_eq_getElem_cons (by omega)]
              obtain ⟨_, hx2⟩ := List.getElem?_eq_some_iff.1 hx
              rw [hx2]
            clear hx hSx hAx hFx
            obtain ⟨p0, p1, p2, p3, p4, _⟩ := hs1.blk.five
            obtain ⟨v0, v1, v2, _⟩ := Bv.three
            go_wp2_with fail
            generalize wr.alloc (.cells #[.int .i64 x.k, .int .i64 x.s, .slice Ax x.l.length cx] 60) = w3 at *
            clear p0 p1 p2 p3 p4 v0 v1 v2 e0 e1 e2 hs bb al Bv R2
            obtain ⟨d2, hd2⟩ : ∃ y, Hid (y = doS size d' x) := ⟨_, rfl⟩
            obtain ⟨er, hdr⟩ : ∃ y, Hid (y = doE size d' x) := ⟨_, rfl⟩
            have ok1 := hs1.ok
            have ok2 := doS_ok x ok1
            rw [← hd2.out] at ok2
            refine (dDo_at size d'.lf d'.dn d'.dw A n n d'.zs x.k x.s Ax x.l.length cx x.l d2.lf d2.dn d2.dw d2.zs er w3 hs1.zs (sm_dev ok1.1) hSx1 hsx.out ok1.2 (by rw [hd2.out]; rfl) (by rw [hd2.out]; rfl) (by rw [hd2.out]; rfl) (by rw [hd2.out]; rfl) (by rw [hdr.out]; rfl)).mono ?_
            rintro e w4 ⟨A4, rfl, z4, b4⟩
            have hs2 := hs1.stored b4 z4 ok2
            have hbl := (hs1.under b4).blk
            have hk3 := hs1.big
            have R4 := R3.below b4
            have bb4 := bb1.trans (b4.mono bb1.size)
            have bb5 := ((((bb4.setCell (p := ⟨kd, 0, none⟩) hkl (.int .i64 size)).setCell (p := ⟨kd, 1, none⟩) hkl (.slice A4 n n)).setCell (p := ⟨kd, 2, none⟩) hkl (.int .i64 d2.lf)).setCell (p := ⟨kd, 3, none⟩) hkl (.bool d2.dw)).setCell (p := ⟨kd, 4, none⟩) hkl (.int .i64 d2.dn)
            have R5 := ((((R4.far (a := ⟨kd, 0, none⟩) (by show ¬ w1.heap.size ≤ kd; omega) (.int .i64 size)).far (a := ⟨kd, 1, none⟩) (by show ¬ w1.heap.size ≤ kd; omega) (.slice A4 n n)).far (a := ⟨kd, 2, none⟩) (by show ¬ w1.heap.size ≤ kd; omega) (.int .i64 d2.lf)).far (a := ⟨kd, 3, none⟩) (by show ¬ w1.heap.size ≤ kd; omega) (.bool d2.dw)).far (a := ⟨kd, 4, none⟩) (by show ¬ w1.heap.size ≤ kd; omega) (.int .i64 d2.dn)
            clear ok1 ok2 hs1 hSx1 R3 R4 bb1 bb4 z4 b4
            obtain ⟨p0, p1, p2, p3, p4, f0, f1, f2, f3, f4⟩ := hbl.five
            go_upto_if 47 with (fail)
            generalize (((((w4.setCell ⟨kd, 0, none⟩ (.int .i64 size)).setCell ⟨kd, 1, none⟩ (.slice A4 n n)).setCell ⟨kd, 2, none⟩ (.int .i64 d2.lf)).setCell ⟨kd, 3, none⟩ (.bool d2.dw)).setCell ⟨kd, 4, none⟩ (.int .i64 d2.dn)) = w5 at *
            clear p0 p1 p2 p3 p4 f0 f1 f2 f3 f4 hbl
            by_cases her2 : er = 0
            · subst her2
              have hd3 : Hid (doAll size d cs = doAll size d2 (cs.drop (j + 1))) := by
                show doAll size d cs = _
                rw [hd1.out, hxd.out, doAll, ← hdr.out, if_pos rfl, hd2.out]
              clear hd1 hxd hd2 hdr
              go_wp2_with fail
              go_roundg g2
              case measure => omega
              case rel => exact ⟨j + 1, A4, d2, by omega, by first | rfl | (simp; done), by first | rfl | (simp; done), hd3, hs2, R5, bb5⟩
            · have hy1 : Hid (yy = (d2, pl, er)) := by
                show yy = _
                rw [hy.out, hrd.out]
                refine apAt_bad her.out ?_ her2
                rw [hcs.out, hd1.out, hxd.out, doAll, ← hdr.out, if_neg her2, hd2.out]
              clear hd1 hxd hd2 hdr hy hrd her hcs R5
              have hs := hs2
              have bb := bb5
              clear hs2 bb5
              obtain ⟨p0, p1, p2, p3, p4, f0, f1, f2, f3, f4⟩ := hs.blk.five
              obtain ⟨q0, q1, q2, q3, q4, h0, h1, h2, h3, h4⟩ := hs.res.five
              have hpl := hs.row.len
              have hkb2 : w.heap.size ≤ kd + 1 := by omega
              go_wp2
              obtain ⟨u1, u2, u3⟩ := hs.done hkl _ rfl
              refine ret_blk3 rfl rfl u1 Tryd.underlying36 (by kernel_rfl) rfl rfl ?_
              rw [hy1.out]
              refine ⟨_, _, _, _, hpl.symm, rfl, u2, u3, ?_⟩
              exact ((((bb.setCell (p := ⟨kd + 1, 0, none⟩) hkb2 _).setCell (p := ⟨kd + 1, 1, none⟩) hkb2 _).setCell (p := ⟨kd + 1, 2, none⟩) hkb2 _).setCell (p := ⟨kd + 1, 3, none⟩) hkb2 _).setCell (p := ⟨kd + 1, 4, none⟩) hkb2 _
          · have hy1 : Hid (yy = apAt (pl ++ [(zn, at_)]) (apS size d' (rs.drop (k + 1)))) := by
              show yy = _
              rw [hy.out, hrd.out]
              refine apAt_ok her.out ?_ hzn.out hat.out
              rw [hcs.out, hd1.out, List.drop_eq_nil_of_le (by omega), doAll]
            have al := (Below.refl wr.heap.size wr).alloc (Nat.le_refl _) (.cells #[.complex .f64 fa fb] 50)
            have Bs := Blk.new wr #[.complex .f64 fa fb] 50
            obtain ⟨A5, c5, w5, hrun, hs5, hb5⟩ := (hs.under al).app (by omega) zn at_ (by rw [hfab.out]; exact Bs)
            have bb5 := hb5 w.heap.size w hkl (bb.alloc bb.size _)
            clear Bs al hb5 hs bb R2 hd1 hy hrd her hzn hat hcs hsm2
            go_wp2_with (at_builtin; first | (refine wpList_run rfl (.tmp 49) (.tmp 51) 41 rfl rfl rfl hrun ?_; intro _))
            go_roundg g
            case measure => omega
            case rel => exact ⟨k + 1, A, d', A5, c5, _, by omega, rfl, rfl, by first | rfl | (simp; done), hy1, hs5, bb5⟩
      · have hy1 : Hid (yy = (d, pl, er)) := by
          show yy = _
          rw [hy.out, hrd.out]
          exact apAt_no her.out he
        refine (gplan_no size d.lf d.dn d.dw A n n d.zs r Ar cr er w1 hT1 hs1.zs hS1 her.out he).mono ?_
        rintro e w2 ⟨rfl, b2⟩
        have hs := hs1.under b2
        have bb := bb1.trans (b2.mono bb1.size)
        clear hs1 bb1 b2 hT1 hS1 her hy hrd
        obtain ⟨p0, p1, p2, p3, p4, f0, f1, f2, f3, f4⟩ := hs.blk.five
        obtain ⟨q0, q1, q2, q3, q4, h0, h1, h2, h3, h4⟩ := hs.res.five
        have hpl := hs.row.len
        have hkb2 : w.heap.size ≤ kd + 1 := by omega
        go_wp2
        obtain ⟨u1, u2, u3⟩ := hs.done hkl _ rfl
        refine ret_blk3 rfl rfl u1 Tryd.underlying36 (by kernel_rfl) rfl rfl ?_
        rw [hy1.out]
        refine ⟨_, _, _, _, hpl.symm, rfl, u2, u3, ?_⟩
        exact ((((bb.setCell (p := ⟨kd + 1, 0, none⟩) hkb2 _).setCell (p := ⟨kd + 1, 1, none⟩) hkb2 _).setCell (p := ⟨kd + 1, 2, none⟩) hkb2 _).setCell (p := ⟨kd + 1, 3, none⟩) hkb2 _).setCell (p := ⟨kd + 1, 4, none⟩) hkb2 _
    · have hkk : k = m := by omega
      subst hkk
      have hy1 : Hid (yy = (d, pl, 0)) := by
        show yy = _
        rw [hy.out, List.drop_eq_nil_of_le (by omega)]
        simp [apS, apAt]
      obtain ⟨p0, p1, p2, p3, p4, f0, f1, f2, f3, f4⟩ := hs.blk.five
      obtain ⟨q0, q1, q2, q3, q4, h0, h1, h2, h3, h4⟩ := hs.res.five
      have hpl := hs.row.len
      have hkb2 : w.heap.size ≤ kd + 1 := by omega
      go_wp2
      obtain ⟨u1, u2, u3⟩ := hs.done hkl _ rfl
      refine ret_blk3 rfl rfl u1 Tryd.underlying36 (by kernel_rfl) rfl rfl ?_
      rw [hy1.out]
      refine ⟨_, _, _, _, hpl.symm, rfl, u2, u3, ?_⟩
      exact ((((bb.setCell (p := ⟨kd + 1, 0, none⟩) hkb2 _).setCell (p := ⟨kd + 1, 1, none⟩) hkb2 _).setCell (p := ⟨kd + 1, 2, none⟩) hkb2 _).setCell (p := ⟨kd + 1, 3, none⟩) hkb2 _).setCell (p := ⟨kd + 1, 4, none⟩) hkb2 _
end Go.Proofs.YtnejiclghnigiaaDoor
namespace Go.Wag
set_option linter.unusedVariables false

section
variable {α : Type} (ky : α → Int)
/-- x, put in behind all whose number is not above its own. -/
def insK (S : List α) (x : α) : List α := S.filter (fun y => decide (ky y ≤ ky x)) ++ x :: S.filter (fun y => !decide (ky y ≤ ky x))
def sortK (xs : List α) : List α := xs.foldl (insK ky) []
theorem sortK_snoc (xs : List α) (x : α) : sortK ky (xs ++ [x]) = insK ky (sortK ky xs) x := by simp [sortK]
theorem insK_perm (S : List α) (x : α) : (insK ky S x).Perm (x :: S) := by
  unfold insK
  exact (List.perm_middle).trans ((List.filter_append_perm _ S).cons x)
theorem insK_length (S : List α) (x : α) : (insK ky S x).length = S.length + 1 := by simpa using (insK_perm ky S x).length_eq
theorem sortK_perm (xs : List α) : (sortK ky xs).Perm xs := by
  have : ∀ (xs S : List α), (xs.foldl (insK ky) S).Perm (S ++ xs) := by
    intro xs
    induction xs with
    | nil => intro S; simp
    | cons x xs ih =>
      intro S
      refine (ih _).trans ?_
      refine ((insK_perm ky S x).append_right xs).trans ?_
      exact (List.perm_middle).symm
  simpa [sortK] using this xs []
theorem sortK_length (xs : List α) : (sortK ky xs).length = xs.length := (sortK_perm ky xs).length_eq
abbrev SortedK (S : List α) : Prop := S.Pairwise (fun a b => ky a ≤ ky b)
theorem insK_sorted {S : List α} (h : SortedK ky S) (x : α) : SortedK ky (insK ky S x) := by
  unfold insK SortedK
  rw [List.pairwise_append]
  refine ⟨h.filter _, ?_, ?_⟩
  · rw [List.pairwise_cons]
    refine ⟨fun b hb => ?_, h.filter _⟩
    have := (List.mem_filter.1 hb).2
    simp at this
    omega
  · intro a ha b hb
    have h1 := (List.mem_filter.1 ha).2
    simp at h1
    rcases List.mem_cons.1 hb with rfl | hb
    · exact h1
    · have h2 := (List.mem_filter.1 hb).2
      simp at h2
      omega
theorem sortK_sorted (xs : List α) : SortedK ky (sortK ky xs) := by
  have : ∀ (xs S : List α), SortedK ky S → SortedK ky (xs.foldl (insK ky) S) := by
    intro xs
    induction xs with
    | nil => intro S h; exact h
    | cons x xs ih => intro S h; exact ih _ (insK_sorted ky h x)
  exact this xs [] List.Pairwise.nil
/-- Where x goes in. -/
theorem insK_at {S : List α} (h : SortedK ky S) {x : α} {p : Nat} (hp : p ≤ S.length) (ha : ∀ y ∈ S.drop p, ky x < ky y) (hb : ∀ q y, p = q + 1 → S[q]? = some y → ky y ≤ ky x) : S.take p ++ x :: S.drop p = insK ky S x := by
  have h1 : ∀ y ∈ S.take p, ky y ≤ ky x := by
    intro y hy
    obtain ⟨i, hi, rfl⟩ := List.mem_iff_getElem.1 hy
    rw [List.length_take] at hi
    obtain ⟨q, rfl⟩ : ∃ q, p = q + 1 := ⟨p - 1, by omega⟩
    have hq := hb q _ rfl (List.getElem?_eq_getElem (by omega))
    rw [List.getElem_take]
    by_cases e : i = q
    · subst e; exact hq
    · have := List.pairwise_iff_getElem.1 h i q (by omega) (by omega) (by omega)
      omega
  have e1 : S.filter (fun y => decide (ky y ≤ ky x)) = S.take p := by
    conv => lhs; rw [← List.take_append_drop p S]
    rw [List.filter_append, List.filter_eq_self.2 (fun y hy => by simpa using h1 y hy), List.filter_eq_nil_iff.2 (fun y hy => by have := ha y hy; simp; omega), List.append_nil]
  have e2 : S.filter (fun y => !decide (ky y ≤ ky x)) = S.drop p := by
    conv => lhs; rw [← List.take_append_drop p S]
    rw [List.filter_append, List.filter_eq_nil_iff.2 (fun y hy => by have := h1 y hy; simp; omega), List.filter_eq_self.2 (fun y hy => by have := ha y hy; simp; omega), List.nil_append]
  rw [insK, e1, e2]
/-- A list in order, each number once, is what its members are sorted to. -/
theorem sortK_eq {xs ys : List α} (hp : ys.Perm xs) (hs : ys.Pairwise (fun a b => ky a < ky b)) : sortK ky xs = ys := by
  have hs2 : SortedK ky ys := hs.imp (fun h => by omega)
  have inj : ∀ a ∈ ys, ∀ b ∈ ys, ky a = ky b → a = b := by
    intro a ha b hb e
    obtain ⟨i, hi, rfl⟩ := List.mem_iff_getElem.1 ha
    obtain ⟨j, hj, rfl⟩ := List.mem_iff_getElem.1 hb
    by_cases hij : i = j
    · subst hij; rfl
    · exfalso
      by_cases hlt : i < j
      · have := List.pairwise_iff_getElem.1 hs i j hi hj hlt
        omega
      · have := List.pairwise_iff_getElem.1 hs j i hj hi (by omega)
        omega
  refine ((sortK_perm ky xs).trans hp.symm).eq_of_pairwise ?_ (sortK_sorted ky xs) hs2
  intro a b ha hb h1 h2
  have ha2 : a ∈ ys := ((sortK_perm ky xs).trans hp.symm).mem_iff.1 ha
  exact inj a ha2 b hb (by omega)
/-- A sort's state: x is at a + p, among those that are in order. -/
def stK (pre S rest : List α) (x : α) (p : Nat) : List α := pre ++ ((S.take p ++ x :: S.drop p) ++ rest)
theorem stK_length (pre S rest : List α) (x : α) (p : Nat) : (stK pre S rest x p).length = pre.length + S.length + 1 + rest.length := by
  have : (S.take p ++ S.drop p).length = S.length := by rw [List.take_append_drop]
  simp only [List.length_append] at this
  simp only [stK, List.length_append, List.length_cons]
  omega
theorem stK_x (pre S rest : List α) (x : α) {p : Nat} (hp : p ≤ S.length) : (stK pre S rest x p)[pre.length + p]? = some x := by
  have hl : (S.take p).length = p := by rw [List.length_take]; omega
  rw [stK, List.getElem?_append_right (by omega), show pre.length + p - pre.length = p by omega, List.append_assoc, List.getElem?_append_right (by omega), hl, Nat.sub_self]
  rfl
theorem stK_y (pre S rest : List α) (x : α) {p : Nat} (hp : p + 1 ≤ S.length) : (stK pre S rest x (p + 1))[pre.length + p]? = S[p]? := by
  have hl : (S.take (p + 1)).length = p + 1 := by rw [List.length_take]; omega
  rw [stK, List.getElem?_append_right (by omega), show pre.length + p - pre.length = p by omega, List.append_assoc, List.getElem?_append_left (by omega), List.getElem?_take, if_pos (by omega)]
theorem stK_step (pre S rest : List α) (x y : α) {p : Nat} (hy : S[p]? = some y) : ((stK pre S rest x (p + 1)).set (pre.length + p + 1) y).set (pre.length + p) x = stK pre S rest x p := by
  obtain ⟨hp, hy2⟩ := List.getElem?_eq_some_iff.1 hy
  have e1 : S.take (p + 1) = S.take p ++ [y] := by rw [List.take_add_one, hy]; rfl
  have e2 : S.drop p = y :: S.drop (p + 1) := by rw [List.drop_eq_getElem_cons hp, hy2]
  have hl : (S.take p).length = p := by rw [List.length_take]; omega
  rw [stK, stK, e1, e2, List.set_append_right _ _ (by omega), show pre.length + p + 1 - pre.length = p + 1 by omega, List.set_append_right _ _ (by omega), show pre.length + p - pre.length = p by omega]
  congr 1
  have e3 : (S.take p ++ [y] ++ x :: S.drop (p + 1) ++ rest) = S.take p ++ (y :: x :: (S.drop (p + 1) ++ rest)) := by simp
  have e4 : (S.take p ++ x :: y :: S.drop (p + 1) ++ rest) = S.take p ++ (x :: y :: (S.drop (p + 1) ++ rest)) := by simp
  rw [e3, e4, List.set_append_right _ _ (by omega), hl, show p + 1 - p = 1 by omega, List.set_append_right _ _ (by omega), hl, Nat.sub_self]
  rfl
end
end Go.Wag
namespace Go.Wag
open Go.RowKit
set_option linter.unusedVariables false
set_option maxRecDepth 20000

/-- Cells one behind the other, stored. -/
def setL (w : World) (g : Nat) : Nat → List Value → World
  | _, [] => w
  | o, v :: vs => setL (w.setCell ⟨g, o, none⟩ v) g (o + 1) vs
theorem setL_size (w : World) (g o : Nat) (vs : List Value) : (setL w g o vs).heap.size = w.heap.size := by
  induction vs generalizing w o with
  | nil => rfl
  | cons v vs ih => rw [setL, ih]; simp [World.setCell]
theorem setL_but (w : World) (g : Nat) : ∀ (o : Nat) (vs : List Value), But g w (setL w g o vs) := by
  intro o vs
  induction vs generalizing w o with
  | nil => exact But.refl _ _
  | cons v vs ih =>
    have h1 := (But.refl g w).set o v
    have h2 := ih (w.setCell ⟨g, o, none⟩ v) (o + 1)
    exact ⟨Nat.le_trans h1.size h2.size, fun k hk hne => (h2.block k (Nat.lt_of_lt_of_le hk h1.size) hne).trans (h1.block k hk hne)⟩
theorem setL_blk {w : World} {g : Nat} {t : TypeId} (o : Nat) (vs : List Value) {cs : Array Value} (h : Blk w g cs t) : ∃ cs', cs'.size = cs.size ∧ Blk (setL w g o vs) g cs' t := by
  induction vs generalizing w o cs with
  | nil => exact ⟨cs, rfl, h⟩
  | cons v vs ih =>
    obtain ⟨cs', h1, h2⟩ := ih (o + 1) (h.set o v)
    exact ⟨cs', by simpa using h1, h2⟩
theorem setL_cell {w : World} {g : Nat} {t : TypeId} (o : Nat) (vs : List Value) {cs : Array Value} (h : Blk w g cs t) (hs : o + vs.length ≤ cs.size) (j : Nat) : (setL w g o vs).cell? ⟨g, j, none⟩ = if o ≤ j ∧ j < o + vs.length then vs[j - o]? else w.cell? ⟨g, j, none⟩ := by
  induction vs generalizing w o cs with
  | nil => rw [setL, if_neg (by simp <;> omega)]
  | cons v vs ih =>
    simp only [List.length_cons] at hs
    rw [setL, ih (o + 1) (h.set o v) (by simp; omega), cell_set h (by omega)]
    simp only [List.length_cons]
    by_cases h1 : o + 1 ≤ j ∧ j < o + 1 + vs.length
    · rw [if_pos h1, if_pos (by omega), show j - o = (j - (o + 1)) + 1 by omega]
      rfl
    · rw [if_neg h1]
      by_cases h2 : o = j
      · subst h2
        rw [if_pos rfl, if_pos (by omega), Nat.sub_self]
        rfl
      · rw [if_neg h2, if_neg (by omega)]

/-- A row of structs in block g. -/
structure Ro {α : Type} (E : Elt α) (F : Nat → Prop) (t : TypeId) (w : World) (g : Nat) (xs : List α) : Prop where
  blk : ∃ cs, xs.length * E.k ≤ cs.size ∧ Blk w g cs t
  at_ : ∀ i x, xs[i]? = some x → ∃ vs, E.rd (fun b => F b ∧ b ≠ g) w vs x ∧ ∀ j v, vs[j]? = some v → w.cell? ⟨g, i * E.k + j, none⟩ = some v
section
variable {α : Type} {E : Elt α} {F : Nat → Prop} {t : TypeId} {w w' : World} {g : Nat} {xs : List α}
theorem Ro.lt (h : Ro E F t w g xs) : g < w.heap.size := by
  obtain ⟨cs, _, hb⟩ := h.blk
  exact hb.lt
theorem Ro.under (h : Ro E F t w g xs) (hb : Below w.heap.size w w') : Ro E F t w' g xs := by
  obtain ⟨cs, hc, hB⟩ := h.blk
  refine ⟨⟨cs, hc, hB.under hb⟩, fun i x hi => ?_⟩
  obtain ⟨vs, hr, hv⟩ := h.at_ i x hi
  exact ⟨vs, Elt.below hr hb, fun j v hj => (hb.cell h.lt).trans (hv j v hj)⟩
theorem Ro.drew (h : Ro E F t w g xs) : Ro E F t w.drew g xs := h.under (Below.refl _ _).drew
theorem Ro.alloc (h : Ro E F t w g xs) (o : Obj) : Ro E F t (w.alloc o) g xs := h.under ((Below.refl _ _).alloc (Nat.le_refl _) o)
theorem Ro.imp {F' : Nat → Prop} (h : Ro E F t w g xs) (hF : ∀ b, b < w.heap.size → F b → F' b) : Ro E F' t w g xs :=
  ⟨h.blk, fun i x hi => by
    obtain ⟨vs, hr, hv⟩ := h.at_ i x hi
    exact ⟨vs, E.imp hr (fun b hb hh => ⟨hF b hb hh.1, hh.2⟩), hv⟩⟩
theorem Ro.frozen (h : Ro E F t w g xs) (i : Nat) : w.frozen? ⟨g, i, none⟩ = false := by
  obtain ⟨cs, hc, hB⟩ := h.blk
  exact hB.frozen i
/-- The store of a member. -/
theorem Ro.set (h : Ro E F t w g xs) {i : Nat} (hi : i < xs.length) {y : α} {vs : List Value} (hy : E.rd (fun b => F b ∧ b ≠ g) w vs y) : Ro E F t (setL w g (i * E.k) vs) g (xs.set i y) := by
  obtain ⟨cs, hc, hB⟩ := h.blk
  have hl := E.len hy
  have hfit : i * E.k + vs.length ≤ cs.size := by
    have : (i + 1) * E.k ≤ xs.length * E.k := Nat.mul_le_mul_right _ hi
    rw [Nat.add_mul] at this
    omega
  have hcell := setL_cell (i * E.k) vs hB hfit
  have hbut := setL_but w g (i * E.k) vs
  have keep : ∀ {ys : List Value} {x : α}, E.rd (fun b => F b ∧ b ≠ g) w ys x → E.rd (fun b => F b ∧ b ≠ g) (setL w g (i * E.k) vs) ys x := fun hr =>
    E.keep hr hbut.size (fun p hp hF => hbut.cell hp hF.2)
  obtain ⟨cs', hc', hB'⟩ := setL_blk (i * E.k) vs hB
  refine ⟨⟨cs', by rw [List.length_set, hc']; exact hc, hB'⟩, fun k x hk => ?_⟩
  rw [List.getElem?_set] at hk
  by_cases e : i = k
  · subst e
    rw [if_pos rfl, if_pos hi] at hk
    cases hk
    refine ⟨vs, keep hy, fun j v hj => ?_⟩
    have hjl := (List.getElem?_eq_some_iff.1 hj).1
    rw [hcell, if_pos (by omega), show i * E.k + j - i * E.k = j by omega]
    exact hj
  · rw [if_neg e] at hk
    obtain ⟨ys, hr, hv⟩ := h.at_ k x hk
    refine ⟨ys, keep hr, fun j v hj => ?_⟩
    have hjl := (List.getElem?_eq_some_iff.1 hj).1
    rw [E.len hr] at hjl
    have ne : ¬ (i * E.k ≤ k * E.k + j ∧ k * E.k + j < i * E.k + vs.length) := by
      rcases Nat.lt_or_gt_of_ne e with hlt | hlt
      · have : (i + 1) * E.k ≤ k * E.k := Nat.mul_le_mul_right _ hlt
        rw [Nat.add_mul] at this
        omega
      · have : (k + 1) * E.k ≤ i * E.k := Nat.mul_le_mul_right _ hlt
        rw [Nat.add_mul] at this
        omega
    rw [hcell, if_neg ne]
    exact hv j v hj
theorem Ro.toRs (h : Ro E F t w g xs) {n c : Nat} (hn : xs.length = n) (hc : n ≤ c) (hb : c ≤ 9223372036854775807) (hF : F g) : Rs E F w (some ⟨g, 0, none⟩) n c xs :=
  ⟨hn, hc, hb, fun _ => ⟨g, 0, rfl, hF, h.lt, fun i x hi => by
    obtain ⟨vs, hr, hv⟩ := h.at_ i x hi
    exact ⟨vs, E.imp hr (fun b _ hh => hh.1), fun j v hj => by rw [Nat.zero_add]; exact hv j v hj⟩⟩⟩
/-- Such a row out of one that was appended to. -/
theorem Rq.toRo {B : Nat} {A : Option Addr} {n c : Nat} (h : Rq E F B t w A n c xs) (hn : 0 < n) : ∃ g, A = some ⟨g, 0, none⟩ ∧ B ≤ g ∧ n ≤ c ∧ c ≤ 9223372036854775807 ∧ Ro E F t w g xs := by
  obtain ⟨cs, hx, hz⟩ := id h.row
  rcases hx.2 with ⟨hv, rfl⟩ | ⟨g, cap, cur, hv, hB, hg, hnc, hm, hsz, hcs⟩
  · simp at hv
    omega
  · obtain ⟨rfl, rfl⟩ : A = some ⟨g, 0, none⟩ ∧ c = cap := by simpa using hv
    have hl := h.len
    refine ⟨g, rfl, hB, hnc, by simpa [maxLen] using hm, ⟨cur, ?_, hg⟩, fun i x hi => ?_⟩
    · rw [hl]
      exact Nat.le_trans (Nat.mul_le_mul_right _ hnc) (by omega)
    · obtain ⟨vs, hr, hv⟩ := hz i x hi
      refine ⟨vs, E.imp hr (fun b _ hb => ⟨hb.1, fun e => hb.2 (by rw [e]; rfl)⟩), fun j v hj => ?_⟩
      have e : ∀ j, ((⟨g, 0, none⟩ : Addr).add j) = ⟨g, j, none⟩ := fun j => by unfold Addr.add; split <;> simp_all
      rw [← e]
      exact hx.cells (g := g) rfl _ _ (hv j v hj)
end
end Go.Wag
