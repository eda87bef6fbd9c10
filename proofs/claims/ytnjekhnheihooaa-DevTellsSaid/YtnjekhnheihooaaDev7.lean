/-
  Contracts of package dev: commands, run, Do (written by gen_dev7.py).
-/
import Derived.Test.YtnjekhnheihooaaDev6
import Derived.MapKept
import Derived.Carry
namespace Go.Proofs.Ytnjekhnheihooaa
open Go.RowKit Go.Wag
set_option linter.unusedVariables false

theorem push_set (w : World) (o o' : Obj) : { (w.alloc o) with heap := (w.alloc o).heap.setIfInBounds w.heap.size o' } = w.alloc o' := by
  unfold World.alloc
  simp [Array.setIfInBounds, Array.set_push]
theorem run_putm (w : World) (es es' : Array MapEntry) (clock : Nat) (a : Int) (val : Value) (hf : Instr.findNow (.int .i64) (.int .i64 a) es.toList 0 = some none) (he : es' = es.push ⟨.int .i64 a, val, clock⟩) :
    (Instr.mapUpdate 67 (.map (some w.heap.size)) (.int .i64 a) val).run Try.prog (w.alloc (.map es clock)) = .ok () (w.alloc (.map es' (clock + 1))) := by
  have hb := (MapKept.heap_alloc w (.map es clock)).1
  have hc : (Instr.checkKey false 10000 3 (.int .i64 a)).run Try.prog (w.alloc (.map es clock)) = .ok () (w.alloc (.map es clock)) := MapKept.run_checkKey (k := .int .i64 a) Try.underlying3 (by simp [MapKept.IsKey]) false 9999
  simp [Instr.mapUpdate, run_underlying Try.underlying67, MapKept.run_getObj_map hb, hc, MapKept.run_findKey Try.underlying3 hf, MapKept.run_setObj_map _ hb, Result.andThen, he]
  exact push_set w _ _
theorem run_lookm (W : World) (r : Nat) (es : Array MapEntry) (clock : Nat) (kd : Int) (hb : W.heap[r]? = some (.map es clock)) (i : Nat) (v : Value) (hf : Instr.findNow (.int .i64) (.int .i64 kd) es.toList 0 = some (some (i, v))) :
    (Instr.lookup 67 (.map (some r)) (.int .i64 kd) true).run Try.prog W = .ok (.tuple #[v, .bool true]) W := by
  have hc : (Instr.checkKey es.isEmpty 10000 3 (.int .i64 kd)).run Try.prog W = .ok () W := MapKept.run_checkKey (k := .int .i64 kd) Try.underlying3 (by simp [MapKept.IsKey]) _ 9999
  simp [Instr.lookup, run_underlying Try.underlying67, MapKept.run_getObj_map hb, hc, MapKept.run_findKey Try.underlying3 hf, Result.andThen]
theorem run_lookm_no (W : World) (r : Nat) (es : Array MapEntry) (clock : Nat) (kd : Int) (hb : W.heap[r]? = some (.map es clock)) (hf : Instr.findNow (.int .i64) (.int .i64 kd) es.toList 0 = some none) :
    (Instr.lookup 67 (.map (some r)) (.int .i64 kd) true).run Try.prog W = .ok (.tuple #[.nilFunc, .bool false]) W := by
  have hc : (Instr.checkKey es.isEmpty 10000 3 (.int .i64 kd)).run Try.prog W = .ok () W := MapKept.run_checkKey (k := .int .i64 kd) Try.underlying3 (by simp [MapKept.IsKey]) _ 9999
  have hz : (zeroValue 65).run Try.prog W = .ok (.nilFunc) W := by kernel_rfl
  simp [Instr.lookup, run_underlying Try.underlying67, MapKept.run_getObj_map hb, hc, MapKept.run_findKey Try.underlying3 hf, Result.andThen, hz]

def cmdES : Array MapEntry := #[⟨.int .i64 1, .func (.func 41) #[] #[], 0⟩, ⟨.int .i64 2, .func (.func 42) #[] #[], 1⟩, ⟨.int .i64 3, .func (.func 43) #[] #[], 2⟩, ⟨.int .i64 4, .func (.func 44) #[] #[], 3⟩, ⟨.int .i64 5, .func (.func 45) #[] #[], 4⟩]
theorem dcommands_any (w : World) : Calls Try.prog 40 #[] w fun e w' => e = .returned (.map (some w.heap.size)) ∧ w' = w.alloc (.map cmdES 5) := by
  have hm := run_makeMap (P := Try.prog) 67 w
  have h0 := run_putm w #[] #[⟨.int .i64 1, .func (.func 41) #[] #[], 0⟩] 0 1 (.func (.func 41) #[] #[]) rfl rfl
  have h1 := run_putm w #[⟨.int .i64 1, .func (.func 41) #[] #[], 0⟩] #[⟨.int .i64 1, .func (.func 41) #[] #[], 0⟩, ⟨.int .i64 2, .func (.func 42) #[] #[], 1⟩] 1 2 (.func (.func 42) #[] #[]) rfl rfl
  have h2 := run_putm w #[⟨.int .i64 1, .func (.func 41) #[] #[], 0⟩, ⟨.int .i64 2, .func (.func 42) #[] #[], 1⟩] #[⟨.int .i64 1, .func (.func 41) #[] #[], 0⟩, ⟨.int .i64 2, .func (.func 42) #[] #[], 1⟩, ⟨.int .i64 3, .func (.func 43) #[] #[], 2⟩] 2 3 (.func (.func 43) #[] #[]) rfl rfl
  have h3 := run_putm w #[⟨.int .i64 1, .func (.func 41) #[] #[], 0⟩, ⟨.int .i64 2, .func (.func 42) #[] #[], 1⟩, ⟨.int .i64 3, .func (.func 43) #[] #[], 2⟩] #[⟨.int .i64 1, .func (.func 41) #[] #[], 0⟩, ⟨.int .i64 2, .func (.func 42) #[] #[], 1⟩, ⟨.int .i64 3, .func (.func 43) #[] #[], 2⟩, ⟨.int .i64 4, .func (.func 44) #[] #[], 3⟩] 3 4 (.func (.func 44) #[] #[]) rfl rfl
  have h4 := run_putm w #[⟨.int .i64 1, .func (.func 41) #[] #[], 0⟩, ⟨.int .i64 2, .func (.func 42) #[] #[], 1⟩, ⟨.int .i64 3, .func (.func 43) #[] #[], 2⟩, ⟨.int .i64 4, .func (.func 44) #[] #[], 3⟩] #[⟨.int .i64 1, .func (.func 41) #[] #[], 0⟩, ⟨.int .i64 2, .func (.func 42) #[] #[], 1⟩, ⟨.int .i64 3, .func (.func 43) #[] #[], 2⟩, ⟨.int .i64 4, .func (.func 44) #[] #[], 3⟩, ⟨.int .i64 5, .func (.func 45) #[] #[], 4⟩] 4 5 (.func (.func 45) #[] #[]) rfl rfl
  simp only [Nat.zero_add, Nat.reduceAdd] at h0 h1 h2 h3 h4
  go_enter Try.func40, Try.ntmps40
  go_wp2
  go_ret
  exact ⟨rfl, rfl⟩

/-- Whether a device is up; what the counts are behind a command; what a command makes of the zones, and its error. -/
def upF (lf : Int) (dw : Bool) : Bool := !(dw || lf == 0)
def cmdZs (size : Int) (zs : List Zp) (kd N : Int) (b : List UInt8) : List Zp :=
  if kd = 1 then chgZs zs N (apH size (openF zs) b) (apE size (openF zs) b) else if kd = 2 then chgZs zs N rsH rsE else if kd = 3 then chgZs zs N fiH fiE else if kd = 4 then chgZs zs N clH clE else if kd = 5 then zs.map fsZ else zs
def cmdEr (size : Int) (zs : List Zp) (kd N : Int) (b : List UInt8) : Int :=
  if kd = 1 then chgEr zs N (apE size (openF zs) b) else if kd = 2 then chgEr zs N rsE else if kd = 3 then chgEr zs N fiE else if kd = 4 then chgEr zs N clE else if kd = 5 then 0 else 1
def goF (size lf : Int) (dw : Bool) (zs : List Zp) : Bool := devF size zs && upF lf dw
def ruLf (size lf : Int) (dw : Bool) (zs : List Zp) : Int := if goF size lf dw zs then (if 0 < lf then lf - 1 else lf) else lf
def ruDw (size lf : Int) (dw : Bool) (zs : List Zp) : Bool := if devF size zs && !upF lf dw then true else dw
def ruDn (size lf dn : Int) (dw : Bool) (zs : List Zp) : Int := if goF size lf dw zs then wrap64 (dn + 1) else dn
def ruZs (size lf : Int) (dw : Bool) (zs : List Zp) (kd N : Int) (b : List UInt8) : List Zp := if goF size lf dw zs then cmdZs size zs kd N b else zs
def ruEr (size lf : Int) (dw : Bool) (zs : List Zp) (kd N : Int) (b : List UInt8) : Int := if devF size zs then (if upF lf dw then cmdEr size zs kd N b else 40) else 1

theorem Wk.left {BB kw g : Nat} {w : World} {size lf dn : Int} {dw : Bool} {zs : List Zp} {kd N : Int} {Ad : Option Addr} {nd cd : Nat} {b : List UInt8} (h : Wk BB kw g w size lf dn dw zs kd N Ad nd cd b) (x : Int) : Wk BB kw g (w.setCell ⟨kw, 2, none⟩ (.int .i64 x)) size x dn dw zs kd N Ad nd cd b :=
  ⟨h.blk.set 2 _, h.zf.far (a := ⟨kw, 2, none⟩) (fun h => h.2 rfl) _, h.sl.farz (fun hn ad e hh => by have h1 := h.low hn ad e; have h2 := h.at_; have h3 : ad.block = kw := hh; omega) _, h.low, h.at_⟩
theorem Wk.down {BB kw g : Nat} {w : World} {size lf dn : Int} {dw : Bool} {zs : List Zp} {kd N : Int} {Ad : Option Addr} {nd cd : Nat} {b : List UInt8} (h : Wk BB kw g w size lf dn dw zs kd N Ad nd cd b) (x : Bool) : Wk BB kw g (w.setCell ⟨kw, 3, none⟩ (.bool x)) size lf dn x zs kd N Ad nd cd b :=
  ⟨h.blk.set 3 _, h.zf.far (a := ⟨kw, 3, none⟩) (fun h => h.2 rfl) _, h.sl.farz (fun hn ad e hh => by have h1 := h.low hn ad e; have h2 := h.at_; have h3 : ad.block = kw := hh; omega) _, h.low, h.at_⟩
theorem Wk.done {BB kw g : Nat} {w : World} {size lf dn : Int} {dw : Bool} {zs : List Zp} {kd N : Int} {Ad : Option Addr} {nd cd : Nat} {b : List UInt8} (h : Wk BB kw g w size lf dn dw zs kd N Ad nd cd b) (x : Int) : Wk BB kw g (w.setCell ⟨kw, 4, none⟩ (.int .i64 x)) size lf x dw zs kd N Ad nd cd b :=
  ⟨h.blk.set 4 _, h.zf.far (a := ⟨kw, 4, none⟩) (fun h => h.2 rfl) _, h.sl.farz (fun hn ad e hh => by have h1 := h.low hn ad e; have h2 := h.at_; have h3 : ad.block = kw := hh; omega) _, h.low, h.at_⟩

theorem find_no (kd : Int) (h1 : (kd == 1) = false) (h2 : (kd == 2) = false) (h3 : (kd == 3) = false) (h4 : (kd == 4) = false) (h5 : (kd == 5) = false) : Instr.findNow (.int .i64) (.int .i64 kd) cmdES.toList 0 = some none := by
  simp only [cmdES, Instr.findNow, Instr.sameNow, h1, h2, h3, h4, h5]
  rfl

set_option maxRecDepth 20000 in
set_option maxHeartbeats 4000000 in
theorem drun_any {BB kw g : Nat} {size lf dn : Int} {dw : Bool} {zs : List Zp} {kd N : Int} {Ad : Option Addr} {nd cd : Nat} {b : List UInt8} (w : World) (h : Wk BB kw g w size lf dn dw zs kd N Ad nd cd b) (hsm : Sm zs) (hnd : nd ≤ 10000) (hlf : lf < 9223372036854775808) :
    Calls Try.prog 36 #[.pointer (some ⟨kw, 0, none⟩)] w (WkPost BB kw w size (ruLf size lf dw zs) (ruDn size lf dn dw zs) (ruDw size lf dw zs) (ruZs size lf dw zs kd N b) kd N Ad nd cd b (ruEr size lf dw zs kd N b)) := by
  obtain ⟨Lf, hLf⟩ : ∃ x, x = ruLf size lf dw zs := ⟨_, rfl⟩
  obtain ⟨Dn, hDn⟩ : ∃ x, x = ruDn size lf dn dw zs := ⟨_, rfl⟩
  obtain ⟨Dw, hDw⟩ : ∃ x, x = ruDw size lf dw zs := ⟨_, rfl⟩
  obtain ⟨Zz, hZz⟩ : ∃ x, x = ruZs size lf dw zs kd N b := ⟨_, rfl⟩
  obtain ⟨Er, hEr⟩ : ∃ x, x = ruEr size lf dw zs kd N b := ⟨_, rfl⟩
  rw [← hLf, ← hDn, ← hDw, ← hZz, ← hEr]
  have hall : Hid (Lf = ruLf size lf dw zs ∧ Dn = ruDn size lf dn dw zs ∧ Dw = ruDw size lf dw zs ∧ Zz = ruZs size lf dw zs kd N b ∧ Er = ruEr size lf dw zs kd N b) := ⟨hLf, hDn, hDw, hZz, hEr⟩
  clear hLf hDn hDw hZz hEr
  have bb := Below.refl BB w
  have hat := h.at_
  have hlt := h.lt
  obtain ⟨p0, p1, p2, p3, p4, p5, p6, p7, f0, f1, f2, f3, f4, f5, f6, f7⟩ := h.blk.eight
  go_enter Try.func36, Try.ntmps36
  go_wp2_with fail
  clear p0 p1 p2 p3 p4 p5 p6 p7 f0 f1 f2 f3 f4 f5 f6 f7
  refine (dCheck_any size lf dn dw (some ⟨g, 0, none⟩) zs.length zs.length zs w (h.zf.toZs hsm.1)).mono ?_
  rintro e w1 ⟨rfl, b1⟩
  replace h := h.under b1
  replace bb := bb.trans (b1.mono (Nat.le_of_lt hlt))
  replace hlt := h.lt
  obtain ⟨p0, p1, p2, p3, p4, p5, p6, p7, f0, f1, f2, f3, f4, f5, f6, f7⟩ := h.blk.eight
  cases hc : devF size zs with
  | false =>
    have e0 : Hid (Lf = lf ∧ Dn = dn ∧ Dw = dw ∧ Zz = zs ∧ Er = 1) := by
      obtain ⟨h1, h2, h3, h4, h5⟩ := hall.out
      refine ⟨h1.trans ?_, h2.trans ?_, h3.trans ?_, h4.trans ?_, h5.trans ?_⟩ <;> simp [ruLf, ruDn, ruDw, ruZs, ruEr, goF, hc]
    go_wp2
    go_ret
    obtain ⟨rfl, rfl, rfl, rfl, rfl⟩ := e0.out
    exact h.post 1 bb
  | true =>
    cases hu : upF lf dw with
    | false =>
      have e0 : Hid (Lf = lf ∧ Dn = dn ∧ Dw = true ∧ Zz = zs ∧ Er = 40) := by
        obtain ⟨h1, h2, h3, h4, h5⟩ := hall.out
        refine ⟨h1.trans ?_, h2.trans ?_, h3.trans ?_, h4.trans ?_, h5.trans ?_⟩ <;> simp [ruLf, ruDn, ruDw, ruZs, ruEr, goF, hc, hu]
      have hh := h.down true
      have bb2 := bb.setCell (p := ⟨kw, 3, none⟩) hat (.bool true)
      cases dw with
      | true =>
        go_wp2
        go_ret
        obtain ⟨rfl, rfl, rfl, rfl, rfl⟩ := e0.out
        exact hh.post 40 bb2
      | false =>
        obtain rfl : lf = 0 := by simpa [upF] using hu
        go_wp2
        go_ret
        obtain ⟨rfl, rfl, rfl, rfl, rfl⟩ := e0.out
        exact hh.post 40 bb2
    | true =>
      obtain ⟨rfl, hl0⟩ : dw = false ∧ lf ≠ 0 := by simpa [upF] using hu
      have hw1 : 0 < lf → wrap64 (lf - 1) = lf - 1 := fun h => wrap64_small (by omega) (by omega)
      by_cases hp : 0 < lf
      · have hw1 := hw1 hp
        have e9 : Hid (Lf = lf - 1 ∧ Dn = wrap64 (dn + 1) ∧ Dw = false) := by
          obtain ⟨h1, h2, h3, h4, h5⟩ := hall.out
          refine ⟨h1.trans ?_, h2.trans ?_, h3.trans ?_⟩ <;> simp [ruLf, ruDn, ruDw, goF, hc, hu, hp]
        obtain ⟨dn1, hdn1⟩ : ∃ x, wrap64 (dn + 1) = x := ⟨_, rfl⟩
        rw [hdn1] at e9
        go_wp2_with fail
        have h3 := (h.left (lf - 1)).done dn1
        have bb3 := (bb.setCell (p := ⟨kw, 2, none⟩) hat (.int .i64 (lf - 1))).setCell (p := ⟨kw, 4, none⟩) hat (.int .i64 dn1)
        clear p0 p1 p2 p3 p4 p5 p6 p7 f0 f1 f2 f3 f4 f5 f6 f7
        generalize (w1.setCell ⟨kw, 2, none⟩ (.int .i64 (lf - 1))).setCell ⟨kw, 4, none⟩ (.int .i64 dn1) = w3 at *
        clear h bb hw1 hdn1
        by_cases hk1 : kd = 1
        · subst hk1
          have e0 : Hid (Zz = chgZs zs N (apH size (openF zs) b) (apE size (openF zs) b) ∧ Er = chgEr zs N (apE size (openF zs) b)) := by
            obtain ⟨h1, h2, h3, h4, h5⟩ := hall.out
            refine ⟨h4.trans ?_, h5.trans ?_⟩ <;> simp [ruZs, ruEr, goF, hc, hu, cmdZs, cmdEr]
          refine wp_region_held_drew (S := fun w' => Below w3.heap.size w3 w') (by kernel_rfl) (Below.refl _ _).drew (fun hHeld => ?_)
          try dsimp only at hHeld
          have bd : Below w3.heap.size w3 w3.drew := (Below.refl w3.heap.size w3).drew
          have h4 := h3.under bd
          generalize w3.drew = wd at *
          try simp only [Act.put, List.setIfInBounds_toArray, List.set_cons_zero, List.set_cons_succ]
          refine wpAnyH_take (i := 1) (v := ?_) (by simp only [List.getElem?_toArray, List.getElem?_cons_succ, List.getElem?_cons_zero]; rfl) (by kernel_rfl) (by kernel_rfl) (by kernel_rfl) (by intro _ _ _ h; exact h) (Or.inl ⟨by rfl, ?_⟩) hHeld ?_
          rotate_left 1
          · intro wq hSw
            try dsimp only at hSw
            go_simp
            try (with_reducible rfl)
          try simp only [Act.put, List.setIfInBounds_toArray, List.set_cons_zero, List.set_cons_succ]
          refine wpAnyH_take (i := 2) (v := ?_) (by simp only [List.getElem?_toArray, List.getElem?_cons_succ, List.getElem?_cons_zero]; rfl) (by kernel_rfl) (by kernel_rfl) (by kernel_rfl) (by intro _ _ _ h; exact h) (Or.inl ⟨by rfl, ?_⟩) hHeld ?_
          rotate_left 1
          · intro wq hSw
            try dsimp only at hSw
            go_simp
            try (with_reducible rfl)
          try simp only [Act.put, List.setIfInBounds_toArray, List.set_cons_zero, List.set_cons_succ]
          refine wpAnyH_take (i := 3) (v := ?_) (by simp only [List.getElem?_toArray, List.getElem?_cons_succ, List.getElem?_cons_zero]; rfl) (by kernel_rfl) (by kernel_rfl) (by kernel_rfl) (by intro _ _ _ h; exact h) (Or.inl ⟨by rfl, ?_⟩) hHeld ?_
          rotate_left 1
          · intro wq hSw
            try dsimp only at hSw
            go_simp
            try (with_reducible rfl)
          try simp only [Act.put, List.setIfInBounds_toArray, List.set_cons_zero, List.set_cons_succ]
          refine wpAnyH_take (i := 4) (v := ?_) (by simp only [List.getElem?_toArray, List.getElem?_cons_succ, List.getElem?_cons_zero]; rfl) (by kernel_rfl) (by kernel_rfl) (by kernel_rfl) (by intro _ _ _ h; exact h) (Or.inl ⟨by rfl, ?_⟩) hHeld ?_
          rotate_left 1
          · intro wq hSw
            try dsimp only at hSw
            go_simp
            try (with_reducible rfl)
          try simp only [Act.put, List.setIfInBounds_toArray, List.set_cons_zero, List.set_cons_succ]
          refine wpAnyH_take (i := 5) (v := ?_) (by simp only [List.getElem?_toArray, List.getElem?_cons_succ, List.getElem?_cons_zero]; rfl) (by kernel_rfl) (by kernel_rfl) (by kernel_rfl) (by intro _ _ _ h; exact h) (Or.inl ⟨by rfl, ?_⟩) hHeld ?_
          rotate_left 1
          · intro wq hSw
            try dsimp only at hSw
            obtain ⟨x0, x1, x2, x3, x4, x5, x6, x7, _⟩ := (h3.blk.under hSw).eight
            go_simp
            try (with_reducible rfl)
          try simp only [Act.put, List.setIfInBounds_toArray, List.set_cons_zero, List.set_cons_succ]
          refine wpAnyH_ready (rs := [0]) (by kernel_rfl) (by simp) ?_
          refine AllReadyH.cons (by simp only [List.getElem?_toArray, List.getElem?_cons_zero]; rfl) (fun K hK => ?_) AllReadyH.nil
          have hC := dcommands_any wd
          go_simp
          refine hC.mono ?_
          clear hC
          rintro e w4 ⟨rfl, hw4⟩
          have b4 : Below wd.heap.size wd w4 := by rw [hw4]; exact (Below.refl _ _).alloc (Nat.le_refl _) _
          have hm4 : w4.heap[wd.heap.size]? = some (.map cmdES 5) := by rw [hw4]; exact (MapKept.heap_alloc wd _).1
          clear hw4
          go_wp2_with fail
          refine hK.out _ _ (bd.trans (b4.mono bd.size)) (fun _ => wpAnyH_stronger (S' := fun w' => Below w4.heap.size w4 w') (fun w' h => Below.trans (bd.trans (b4.mono bd.size)) (h.mono (Nat.le_trans bd.size b4.size))) _ _ _ _ ?_)
          clear hK K hHeld
          have hHeld := Below.refl w4.heap.size w4
          have h5 := h4.under b4
          try simp only [Act.put, List.setIfInBounds_toArray, List.set_cons_zero, List.set_cons_succ]
          refine wpAnyH_take (i := 6) (v := ?_) (by simp only [List.getElem?_toArray, List.getElem?_cons_succ, List.getElem?_cons_zero]; rfl) (by kernel_rfl) (by kernel_rfl) (by kernel_rfl) (by intro _ _ _ h; exact h) (Or.inl ⟨by rfl, ?_⟩) hHeld ?_
          rotate_left 1
          · intro wq hSw
            try dsimp only at hSw
            have hmq := (hSw.block _ (Array.getElem?_eq_some_iff.1 hm4).1).trans hm4
            have hlk := run_lookm wq _ cmdES 5 1 hmq 0 (.func (.func 41) #[] #[]) rfl
            go_simp
            try (with_reducible rfl)
          try simp only [Act.put, List.setIfInBounds_toArray, List.set_cons_zero, List.set_cons_succ]
          refine wpAnyH_take (i := 7) (v := ?_) (by simp only [List.getElem?_toArray, List.getElem?_cons_succ, List.getElem?_cons_zero]; rfl) (by kernel_rfl) (by kernel_rfl) (by kernel_rfl) (by intro _ _ _ h; exact h) (Or.inl ⟨by rfl, ?_⟩) hHeld ?_
          rotate_left 1
          · intro wq hSw
            try dsimp only at hSw
            go_simp
            try (with_reducible rfl)
          try simp only [Act.put, List.setIfInBounds_toArray, List.set_cons_zero, List.set_cons_succ]
          refine wpAnyH_take (i := 8) (v := ?_) (by simp only [List.getElem?_toArray, List.getElem?_cons_succ, List.getElem?_cons_zero]; rfl) (by kernel_rfl) (by kernel_rfl) (by kernel_rfl) (by intro _ _ _ h; exact h) (Or.inl ⟨by rfl, ?_⟩) hHeld ?_
          rotate_left 1
          · intro wq hSw
            try dsimp only at hSw
            go_simp
            try (with_reducible rfl)
          try simp only [Act.put, List.setIfInBounds_toArray, List.set_cons_zero, List.set_cons_succ]
          refine wpAnyH_take (i := 9) (v := ?_) (by simp only [List.getElem?_toArray, List.getElem?_cons_succ, List.getElem?_cons_zero]; rfl) (by kernel_rfl) (by kernel_rfl) (by kernel_rfl) (by intro _ _ _ h; exact h) (Or.inl ⟨by rfl, ?_⟩) hHeld ?_
          rotate_left 1
          · intro wq hSw
            try dsimp only at hSw
            go_simp
            try (with_reducible rfl)
          try simp only [Act.put, List.setIfInBounds_toArray, List.set_cons_zero, List.set_cons_succ]
          refine wpAnyH_take (i := 10) (v := ?_) (by simp only [List.getElem?_toArray, List.getElem?_cons_succ, List.getElem?_cons_zero]; rfl) (by kernel_rfl) (by kernel_rfl) (by kernel_rfl) (by intro _ _ _ h; exact h) (Or.inl ⟨by rfl, ?_⟩) hHeld ?_
          rotate_left 1
          · intro wq hSw
            try dsimp only at hSw
            go_simp
            try (with_reducible rfl)
          try simp only [Act.put, List.setIfInBounds_toArray, List.set_cons_zero, List.set_cons_succ]
          refine wpAnyH_take (i := 11) (v := ?_) (by simp only [List.getElem?_toArray, List.getElem?_cons_succ, List.getElem?_cons_zero]; rfl) (by kernel_rfl) (by kernel_rfl) (by kernel_rfl) (by intro _ _ _ h; exact h) (Or.inl ⟨by rfl, ?_⟩) hHeld ?_
          rotate_left 1
          · intro wq hSw
            try dsimp only at hSw
            go_simp
            try (with_reducible rfl)
          try simp only [Act.put, List.setIfInBounds_toArray, List.set_cons_zero, List.set_cons_succ]
          refine wpAnyH_done (by kernel_rfl) ?_ _
          have bq := bb3.trans ((bd.trans (b4.mono bd.size)).mono (Nat.le_of_lt h3.lt))
          clear hm4 hHeld
          go_wp2_with fail
          refine (dappend_any w4 h5 hsm hnd).mono ?_
          rintro e w6 ⟨rfl, h6, b6⟩
          go_wp2
          go_ret
          obtain ⟨e1, e2⟩ := e0.out
          obtain ⟨e3, e4, e5⟩ := e9.out
          rw [e1, e2, e3, e4, e5]
          exact ⟨rfl, h6, bq.trans b6⟩
        by_cases hk2 : kd = 2
        · subst hk2
          have e0 : Hid (Zz = chgZs zs N rsH rsE ∧ Er = chgEr zs N rsE) := by
            obtain ⟨h1, h2, h3, h4, h5⟩ := hall.out
            refine ⟨h4.trans ?_, h5.trans ?_⟩ <;> simp [ruZs, ruEr, goF, hc, hu, cmdZs, cmdEr]
          refine wp_region_held_drew (S := fun w' => Below w3.heap.size w3 w') (by kernel_rfl) (Below.refl _ _).drew (fun hHeld => ?_)
          try dsimp only at hHeld
          have bd : Below w3.heap.size w3 w3.drew := (Below.refl w3.heap.size w3).drew
          have h4 := h3.under bd
          generalize w3.drew = wd at *
          try simp only [Act.put, List.setIfInBounds_toArray, List.set_cons_zero, List.set_cons_succ]
          refine wpAnyH_take (i := 1) (v := ?_) (by simp only [List.getElem?_toArray, List.getElem?_cons_succ, List.getElem?_cons_zero]; rfl) (by kernel_rfl) (by kernel_rfl) (by kernel_rfl) (by intro _ _ _ h; exact h) (Or.inl ⟨by rfl, ?_⟩) hHeld ?_
          rotate_left 1
          · intro wq hSw
            try dsimp only at hSw
            go_simp
            try (with_reducible rfl)
          try simp only [Act.put, List.setIfInBounds_toArray, List.set_cons_zero, List.set_cons_succ]
          refine wpAnyH_take (i := 2) (v := ?_) (by simp only [List.getElem?_toArray, List.getElem?_cons_succ, List.getElem?_cons_zero]; rfl) (by kernel_rfl) (by kernel_rfl) (by kernel_rfl) (by intro _ _ _ h; exact h) (Or.inl ⟨by rfl, ?_⟩) hHeld ?_
          rotate_left 1
          · intro wq hSw
            try dsimp only at hSw
            go_simp
            try (with_reducible rfl)
          try simp only [Act.put, List.setIfInBounds_toArray, List.set_cons_zero, List.set_cons_succ]
          refine wpAnyH_take (i := 3) (v := ?_) (by simp only [List.getElem?_toArray, List.getElem?_cons_succ, List.getElem?_cons_zero]; rfl) (by kernel_rfl) (by kernel_rfl) (by kernel_rfl) (by intro _ _ _ h; exact h) (Or.inl ⟨by rfl, ?_⟩) hHeld ?_
          rotate_left 1
          · intro wq hSw
            try dsimp only at hSw
            go_simp
            try (with_reducible rfl)
          try simp only [Act.put, List.setIfInBounds_toArray, List.set_cons_zero, List.set_cons_succ]
          refine wpAnyH_take (i := 4) (v := ?_) (by simp only [List.getElem?_toArray, List.getElem?_cons_succ, List.getElem?_cons_zero]; rfl) (by kernel_rfl) (by kernel_rfl) (by kernel_rfl) (by intro _ _ _ h; exact h) (Or.inl ⟨by rfl, ?_⟩) hHeld ?_
          rotate_left 1
          · intro wq hSw
            try dsimp only at hSw
            go_simp
            try (with_reducible rfl)
          try simp only [Act.put, List.setIfInBounds_toArray, List.set_cons_zero, List.set_cons_succ]
          refine wpAnyH_take (i := 5) (v := ?_) (by simp only [List.getElem?_toArray, List.getElem?_cons_succ, List.getElem?_cons_zero]; rfl) (by kernel_rfl) (by kernel_rfl) (by kernel_rfl) (by intro _ _ _ h; exact h) (Or.inl ⟨by rfl, ?_⟩) hHeld ?_
          rotate_left 1
          · intro wq hSw
            try dsimp only at hSw
            obtain ⟨x0, x1, x2, x3, x4, x5, x6, x7, _⟩ := (h3.blk.under hSw).eight
            go_simp
            try (with_reducible rfl)
          try simp only [Act.put, List.setIfInBounds_toArray, List.set_cons_zero, List.set_cons_succ]
          refine wpAnyH_ready (rs := [0]) (by kernel_rfl) (by simp) ?_
          refine AllReadyH.cons (by simp only [List.getElem?_toArray, List.getElem?_cons_zero]; rfl) (fun K hK => ?_) AllReadyH.nil
          have hC := dcommands_any wd
          go_simp
          refine hC.mono ?_
          clear hC
          rintro e w4 ⟨rfl, hw4⟩
          have b4 : Below wd.heap.size wd w4 := by rw [hw4]; exact (Below.refl _ _).alloc (Nat.le_refl _) _
          have hm4 : w4.heap[wd.heap.size]? = some (.map cmdES 5) := by rw [hw4]; exact (MapKept.heap_alloc wd _).1
          clear hw4
          go_wp2_with fail
          refine hK.out _ _ (bd.trans (b4.mono bd.size)) (fun _ => wpAnyH_stronger (S' := fun w' => Below w4.heap.size w4 w') (fun w' h => Below.trans (bd.trans (b4.mono bd.size)) (h.mono (Nat.le_trans bd.size b4.size))) _ _ _ _ ?_)
          clear hK K hHeld
          have hHeld := Below.refl w4.heap.size w4
          have h5 := h4.under b4
          try simp only [Act.put, List.setIfInBounds_toArray, List.set_cons_zero, List.set_cons_succ]
          refine wpAnyH_take (i := 6) (v := ?_) (by simp only [List.getElem?_toArray, List.getElem?_cons_succ, List.getElem?_cons_zero]; rfl) (by kernel_rfl) (by kernel_rfl) (by kernel_rfl) (by intro _ _ _ h; exact h) (Or.inl ⟨by rfl, ?_⟩) hHeld ?_
          rotate_left 1
          · intro wq hSw
            try dsimp only at hSw
            have hmq := (hSw.block _ (Array.getElem?_eq_some_iff.1 hm4).1).trans hm4
            have hlk := run_lookm wq _ cmdES 5 2 hmq 1 (.func (.func 42) #[] #[]) rfl
            go_simp
            try (with_reducible rfl)
          try simp only [Act.put, List.setIfInBounds_toArray, List.set_cons_zero, List.set_cons_succ]
          refine wpAnyH_take (i := 7) (v := ?_) (by simp only [List.getElem?_toArray, List.getElem?_cons_succ, List.getElem?_cons_zero]; rfl) (by kernel_rfl) (by kernel_rfl) (by kernel_rfl) (by intro _ _ _ h; exact h) (Or.inl ⟨by rfl, ?_⟩) hHeld ?_
          rotate_left 1
          · intro wq hSw
            try dsimp only at hSw
            go_simp
            try (with_reducible rfl)
          try simp only [Act.put, List.setIfInBounds_toArray, List.set_cons_zero, List.set_cons_succ]
          refine wpAnyH_take (i := 8) (v := ?_) (by simp only [List.getElem?_toArray, List.getElem?_cons_succ, List.getElem?_cons_zero]; rfl) (by kernel_rfl) (by kernel_rfl) (by kernel_rfl) (by intro _ _ _ h; exact h) (Or.inl ⟨by rfl, ?_⟩) hHeld ?_
          rotate_left 1
          · intro wq hSw
            try dsimp only at hSw
            go_simp
            try (with_reducible rfl)
          try simp only [Act.put, List.setIfInBounds_toArray, List.set_cons_zero, List.set_cons_succ]
          refine wpAnyH_take (i := 9) (v := ?_) (by simp only [List.getElem?_toArray, List.getElem?_cons_succ, List.getElem?_cons_zero]; rfl) (by kernel_rfl) (by kernel_rfl) (by kernel_rfl) (by intro _ _ _ h; exact h) (Or.inl ⟨by rfl, ?_⟩) hHeld ?_
          rotate_left 1
          · intro wq hSw
            try dsimp only at hSw
            go_simp
            try (with_reducible rfl)
          try simp only [Act.put, List.setIfInBounds_toArray, List.set_cons_zero, List.set_cons_succ]
          refine wpAnyH_take (i := 10) (v := ?_) (by simp only [List.getElem?_toArray, List.getElem?_cons_succ, List.getElem?_cons_zero]; rfl) (by kernel_rfl) (by kernel_rfl) (by kernel_rfl) (by intro _ _ _ h; exact h) (Or.inl ⟨by rfl, ?_⟩) hHeld ?_
          rotate_left 1
          · intro wq hSw
            try dsimp only at hSw
            go_simp
            try (with_reducible rfl)
          try simp only [Act.put, List.setIfInBounds_toArray, List.set_cons_zero, List.set_cons_succ]
          refine wpAnyH_take (i := 11) (v := ?_) (by simp only [List.getElem?_toArray, List.getElem?_cons_succ, List.getElem?_cons_zero]; rfl) (by kernel_rfl) (by kernel_rfl) (by kernel_rfl) (by intro _ _ _ h; exact h) (Or.inl ⟨by rfl, ?_⟩) hHeld ?_
          rotate_left 1
          · intro wq hSw
            try dsimp only at hSw
            go_simp
            try (with_reducible rfl)
          try simp only [Act.put, List.setIfInBounds_toArray, List.set_cons_zero, List.set_cons_succ]
          refine wpAnyH_done (by kernel_rfl) ?_ _
          have bq := bb3.trans ((bd.trans (b4.mono bd.size)).mono (Nat.le_of_lt h3.lt))
          clear hm4 hHeld
          go_wp2_with fail
          refine (dreset_any w4 h5 hsm).mono ?_
          rintro e w6 ⟨rfl, h6, b6⟩
          go_wp2
          go_ret
          obtain ⟨e1, e2⟩ := e0.out
          obtain ⟨e3, e4, e5⟩ := e9.out
          rw [e1, e2, e3, e4, e5]
          exact ⟨rfl, h6, bq.trans b6⟩
        by_cases hk3 : kd = 3
        · subst hk3
          have e0 : Hid (Zz = chgZs zs N fiH fiE ∧ Er = chgEr zs N fiE) := by
            obtain ⟨h1, h2, h3, h4, h5⟩ := hall.out
            refine ⟨h4.trans ?_, h5.trans ?_⟩ <;> simp [ruZs, ruEr, goF, hc, hu, cmdZs, cmdEr]
          refine wp_region_held_drew (S := fun w' => Below w3.heap.size w3 w') (by kernel_rfl) (Below.refl _ _).drew (fun hHeld => ?_)
          try dsimp only at hHeld
          have bd : Below w3.heap.size w3 w3.drew := (Below.refl w3.heap.size w3).drew
          have h4 := h3.under bd
          generalize w3.drew = wd at *
          try simp only [Act.put, List.setIfInBounds_toArray, List.set_cons_zero, List.set_cons_succ]
          refine wpAnyH_take (i := 1) (v := ?_) (by simp only [List.getElem?_toArray, List.getElem?_cons_succ, List.getElem?_cons_zero]; rfl) (by kernel_rfl) (by kernel_rfl) (by kernel_rfl) (by intro _ _ _ h; exact h) (Or.inl ⟨by rfl, ?_⟩) hHeld ?_
          rotate_left 1
          · intro wq hSw
            try dsimp only at hSw
            go_simp
            try (with_reducible rfl)
          try simp only [Act.put, List.setIfInBounds_toArray, List.set_cons_zero, List.set_cons_succ]
          refine wpAnyH_take (i := 2) (v := ?_) (by simp only [List.getElem?_toArray, List.getElem?_cons_succ, List.getElem?_cons_zero]; rfl) (by kernel_rfl) (by kernel_rfl) (by kernel_rfl) (by intro _ _ _ h; exact h) (Or.inl ⟨by rfl, ?_⟩) hHeld ?_
          rotate_left 1
          · intro wq hSw
            try dsimp only at hSw
            go_simp
            try (with_reducible rfl)
          try simp only [Act.put, List.setIfInBounds_toArray, List.set_cons_zero, List.set_cons_succ]
          refine wpAnyH_take (i := 3) (v := ?_) (by simp only [List.getElem?_toArray, List.getElem?_cons_succ, List.getElem?_cons_zero]; rfl) (by kernel_rfl) (by kernel_rfl) (by kernel_rfl) (by intro _ _ _ h; exact h) (Or.inl ⟨by rfl, ?_⟩) hHeld ?_
          rotate_left 1
          · intro wq hSw
            try dsimp only at hSw
            go_simp
            try (with_reducible rfl)
          try simp only [Act.put, List.setIfInBounds_toArray, List.set_cons_zero, List.set_cons_succ]
          refine wpAnyH_take (i := 4) (v := ?_) (by simp only [List.getElem?_toArray, List.getElem?_cons_succ, List.getElem?_cons_zero]; rfl) (by kernel_rfl) (by kernel_rfl) (by kernel_rfl) (by intro _ _ _ h; exact h) (Or.inl ⟨by rfl, ?_⟩) hHeld ?_
          rotate_left 1
          · intro wq hSw
            try dsimp only at hSw
            go_simp
            try (with_reducible rfl)
          try simp only [Act.put, List.setIfInBounds_toArray, List.set_cons_zero, List.set_cons_succ]
          refine wpAnyH_take (i := 5) (v := ?_) (by simp only [List.getElem?_toArray, List.getElem?_cons_succ, List.getElem?_cons_zero]; rfl) (by kernel_rfl) (by kernel_rfl) (by kernel_rfl) (by intro _ _ _ h; exact h) (Or.inl ⟨by rfl, ?_⟩) hHeld ?_
          rotate_left 1
          · intro wq hSw
            try dsimp only at hSw
            obtain ⟨x0, x1, x2, x3, x4, x5, x6, x7, _⟩ := (h3.blk.under hSw).eight
            go_simp
            try (with_reducible rfl)
          try simp only [Act.put, List.setIfInBounds_toArray, List.set_cons_zero, List.set_cons_succ]
          refine wpAnyH_ready (rs := [0]) (by kernel_rfl) (by simp) ?_
          refine AllReadyH.cons (by simp only [List.getElem?_toArray, List.getElem?_cons_zero]; rfl) (fun K hK => ?_) AllReadyH.nil
          have hC := dcommands_any wd
          go_simp
          refine hC.mono ?_
          clear hC
          rintro e w4 ⟨rfl, hw4⟩
          have b4 : Below wd.heap.size wd w4 := by rw [hw4]; exact (Below.refl _ _).alloc (Nat.le_refl _) _
          have hm4 : w4.heap[wd.heap.size]? = some (.map cmdES 5) := by rw [hw4]; exact (MapKept.heap_alloc wd _).1
          clear hw4
          go_wp2_with fail
          refine hK.out _ _ (bd.trans (b4.mono bd.size)) (fun _ => wpAnyH_stronger (S' := fun w' => Below w4.heap.size w4 w') (fun w' h => Below.trans (bd.trans (b4.mono bd.size)) (h.mono (Nat.le_trans bd.size b4.size))) _ _ _ _ ?_)
          clear hK K hHeld
          have hHeld := Below.refl w4.heap.size w4
          have h5 := h4.under b4
          try simp only [Act.put, List.setIfInBounds_toArray, List.set_cons_zero, List.set_cons_succ]
          refine wpAnyH_take (i := 6) (v := ?_) (by simp only [List.getElem?_toArray, List.getElem?_cons_succ, List.getElem?_cons_zero]; rfl) (by kernel_rfl) (by kernel_rfl) (by kernel_rfl) (by intro _ _ _ h; exact h) (Or.inl ⟨by rfl, ?_⟩) hHeld ?_
          rotate_left 1
          · intro wq hSw
            try dsimp only at hSw
            have hmq := (hSw.block _ (Array.getElem?_eq_some_iff.1 hm4).1).trans hm4
            have hlk := run_lookm wq _ cmdES 5 3 hmq 2 (.func (.func 43) #[] #[]) rfl
            go_simp
            try (with_reducible rfl)
          try simp only [Act.put, List.setIfInBounds_toArray, List.set_cons_zero, List.set_cons_succ]
          refine wpAnyH_take (i := 7) (v := ?_) (by simp only [List.getElem?_toArray, List.getElem?_cons_succ, List.getElem?_cons_zero]; rfl) (by kernel_rfl) (by kernel_rfl) (by kernel_rfl) (by intro _ _ _ h; exact h) (Or.inl ⟨by rfl, ?_⟩) hHeld ?_
          rotate_left 1
          · intro wq hSw
            try dsimp only at hSw
            go_simp
            try (with_reducible rfl)
          try simp only [Act.put, List.setIfInBounds_toArray, List.set_cons_zero, List.set_cons_succ]
          refine wpAnyH_take (i := 8) (v := ?_) (by simp only [List.getElem?_toArray, List.getElem?_cons_succ, List.getElem?_cons_zero]; rfl) (by kernel_rfl) (by kernel_rfl) (by kernel_rfl) (by intro _ _ _ h; exact h) (Or.inl ⟨by rfl, ?_⟩) hHeld ?_
          rotate_left 1
          · intro wq hSw
            try dsimp only at hSw
            go_simp
            try (with_reducible rfl)
          try simp only [Act.put, List.setIfInBounds_toArray, List.set_cons_zero, List.set_cons_succ]
          refine wpAnyH_take (i := 9) (v := ?_) (by simp only [List.getElem?_toArray, List.getElem?_cons_succ, List.getElem?_cons_zero]; rfl) (by kernel_rfl) (by kernel_rfl) (by kernel_rfl) (by intro _ _ _ h; exact h) (Or.inl ⟨by rfl, ?_⟩) hHeld ?_
          rotate_left 1
          · intro wq hSw
            try dsimp only at hSw
            go_simp
            try (with_reducible rfl)
          try simp only [Act.put, List.setIfInBounds_toArray, List.set_cons_zero, List.set_cons_succ]
          refine wpAnyH_take (i := 10) (v := ?_) (by simp only [List.getElem?_toArray, List.getElem?_cons_succ, List.getElem?_cons_zero]; rfl) (by kernel_rfl) (by kernel_rfl) (by kernel_rfl) (by intro _ _ _ h; exact h) (Or.inl ⟨by rfl, ?_⟩) hHeld ?_
          rotate_left 1
          · intro wq hSw
            try dsimp only at hSw
            go_simp
            try (with_reducible rfl)
          try simp only [Act.put, List.setIfInBounds_toArray, List.set_cons_zero, List.set_cons_succ]
          refine wpAnyH_take (i := 11) (v := ?_) (by simp only [List.getElem?_toArray, List.getElem?_cons_succ, List.getElem?_cons_zero]; rfl) (by kernel_rfl) (by kernel_rfl) (by kernel_rfl) (by intro _ _ _ h; exact h) (Or.inl ⟨by rfl, ?_⟩) hHeld ?_
          rotate_left 1
          · intro wq hSw
            try dsimp only at hSw
            go_simp
            try (with_reducible rfl)
          try simp only [Act.put, List.setIfInBounds_toArray, List.set_cons_zero, List.set_cons_succ]
          refine wpAnyH_done (by kernel_rfl) ?_ _
          have bq := bb3.trans ((bd.trans (b4.mono bd.size)).mono (Nat.le_of_lt h3.lt))
          clear hm4 hHeld
          go_wp2_with fail
          refine (dfinish_any w4 h5 hsm).mono ?_
          rintro e w6 ⟨rfl, h6, b6⟩
          go_wp2
          go_ret
          obtain ⟨e1, e2⟩ := e0.out
          obtain ⟨e3, e4, e5⟩ := e9.out
          rw [e1, e2, e3, e4, e5]
          exact ⟨rfl, h6, bq.trans b6⟩
        by_cases hk4 : kd = 4
        · subst hk4
          have e0 : Hid (Zz = chgZs zs N clH clE ∧ Er = chgEr zs N clE) := by
            obtain ⟨h1, h2, h3, h4, h5⟩ := hall.out
            refine ⟨h4.trans ?_, h5.trans ?_⟩ <;> simp [ruZs, ruEr, goF, hc, hu, cmdZs, cmdEr]
          refine wp_region_held_drew (S := fun w' => Below w3.heap.size w3 w') (by kernel_rfl) (Below.refl _ _).drew (fun hHeld => ?_)
          try dsimp only at hHeld
          have bd : Below w3.heap.size w3 w3.drew := (Below.refl w3.heap.size w3).drew
          have h4 := h3.under bd
          generalize w3.drew = wd at *
          try simp only [Act.put, List.setIfInBounds_toArray, List.set_cons_zero, List.set_cons_succ]
          refine wpAnyH_take (i := 1) (v := ?_) (by simp only [List.getElem?_toArray, List.getElem?_cons_succ, List.getElem?_cons_zero]; rfl) (by kernel_rfl) (by kernel_rfl) (by kernel_rfl) (by intro _ _ _ h; exact h) (Or.inl ⟨by rfl, ?_⟩) hHeld ?_
          rotate_left 1
          · intro wq hSw
            try dsimp only at hSw
            go_simp
            try (with_reducible rfl)
          try simp only [Act.put, List.setIfInBounds_toArray, List.set_cons_zero, List.set_cons_succ]
          refine wpAnyH_take (i := 2) (v := ?_) (by simp only [List.getElem?_toArray, List.getElem?_cons_succ, List.getElem?_cons_zero]; rfl) (by kernel_rfl) (by kernel_rfl) (by kernel_rfl) (by intro _ _ _ h; exact h) (Or.inl ⟨by rfl, ?_⟩) hHeld ?_
          rotate_left 1
          · intro wq hSw
            try dsimp only at hSw
            go_simp
            try (with_reducible rfl)
          try simp only [Act.put, List.setIfInBounds_toArray, List.set_cons_zero, List.set_cons_succ]
          refine wpAnyH_take (i := 3) (v := ?_) (by simp only [List.getElem?_toArray, List.getElem?_cons_succ, List.getElem?_cons_zero]; rfl) (by kernel_rfl) (by kernel_rfl) (by kernel_rfl) (by intro _ _ _ h; exact h) (Or.inl ⟨by rfl, ?_⟩) hHeld ?_
          rotate_left 1
          · intro wq hSw
            try dsimp only at hSw
            go_simp
            try (with_reducible rfl)
          try simp only [Act.put, List.setIfInBounds_toArray, List.set_cons_zero, List.set_cons_succ]
          refine wpAnyH_take (i := 4) (v := ?_) (by simp only [List.getElem?_toArray, List.getElem?_cons_succ, List.getElem?_cons_zero]; rfl) (by kernel_rfl) (by kernel_rfl) (by kernel_rfl) (by intro _ _ _ h; exact h) (Or.inl ⟨by rfl, ?_⟩) hHeld ?_
          rotate_left 1
          · intro wq hSw
            try dsimp only at hSw
            go_simp
            try (with_reducible rfl)
          try simp only [Act.put, List.setIfInBounds_toArray, List.set_cons_zero, List.set_cons_succ]
          refine wpAnyH_take (i := 5) (v := ?_) (by simp only [List.getElem?_toArray, List.getElem?_cons_succ, List.getElem?_cons_zero]; rfl) (by kernel_rfl) (by kernel_rfl) (by kernel_rfl) (by intro _ _ _ h; exact h) (Or.inl ⟨by rfl, ?_⟩) hHeld ?_
          rotate_left 1
          · intro wq hSw
            try dsimp only at hSw
            obtain ⟨x0, x1, x2, x3, x4, x5, x6, x7, _⟩ := (h3.blk.under hSw).eight
            go_simp
            try (with_reducible rfl)
          try simp only [Act.put, List.setIfInBounds_toArray, List.set_cons_zero, List.set_cons_succ]
          refine wpAnyH_ready (rs := [0]) (by kernel_rfl) (by simp) ?_
          refine AllReadyH.cons (by simp only [List.getElem?_toArray, List.getElem?_cons_zero]; rfl) (fun K hK => ?_) AllReadyH.nil
          have hC := dcommands_any wd
          go_simp
          refine hC.mono ?_
          clear hC
          rintro e w4 ⟨rfl, hw4⟩
          have b4 : Below wd.heap.size wd w4 := by rw [hw4]; exact (Below.refl _ _).alloc (Nat.le_refl _) _
          have hm4 : w4.heap[wd.heap.size]? = some (.map cmdES 5) := by rw [hw4]; exact (MapKept.heap_alloc wd _).1
          clear hw4
          go_wp2_with fail
          refine hK.out _ _ (bd.trans (b4.mono bd.size)) (fun _ => wpAnyH_stronger (S' := fun w' => Below w4.heap.size w4 w') (fun w' h => Below.trans (bd.trans (b4.mono bd.size)) (h.mono (Nat.le_trans bd.size b4.size))) _ _ _ _ ?_)
          clear hK K hHeld
          have hHeld := Below.refl w4.heap.size w4
          have h5 := h4.under b4
          try simp only [Act.put, List.setIfInBounds_toArray, List.set_cons_zero, List.set_cons_succ]
          refine wpAnyH_take (i := 6) (v := ?_) (by simp only [List.getElem?_toArray, List.getElem?_cons_succ, List.getElem?_cons_zero]; rfl) (by kernel_rfl) (by kernel_rfl) (by kernel_rfl) (by intro _ _ _ h; exact h) (Or.inl ⟨by rfl, ?_⟩) hHeld ?_
          rotate_left 1
          · intro wq hSw
            try dsimp only at hSw
            have hmq := (hSw.block _ (Array.getElem?_eq_some_iff.1 hm4).1).trans hm4
            have hlk := run_lookm wq _ cmdES 5 4 hmq 3 (.func (.func 44) #[] #[]) rfl
            go_simp
            try (with_reducible rfl)
          try simp only [Act.put, List.setIfInBounds_toArray, List.set_cons_zero, List.set_cons_succ]
          refine wpAnyH_take (i := 7) (v := ?_) (by simp only [List.getElem?_toArray, List.getElem?_cons_succ, List.getElem?_cons_zero]; rfl) (by kernel_rfl) (by kernel_rfl) (by kernel_rfl) (by intro _ _ _ h; exact h) (Or.inl ⟨by rfl, ?_⟩) hHeld ?_
          rotate_left 1
          · intro wq hSw
            try dsimp only at hSw
            go_simp
            try (with_reducible rfl)
          try simp only [Act.put, List.setIfInBounds_toArray, List.set_cons_zero, List.set_cons_succ]
          refine wpAnyH_take (i := 8) (v := ?_) (by simp only [List.getElem?_toArray, List.getElem?_cons_succ, List.getElem?_cons_zero]; rfl) (by kernel_rfl) (by kernel_rfl) (by kernel_rfl) (by intro _ _ _ h; exact h) (Or.inl ⟨by rfl, ?_⟩) hHeld ?_
          rotate_left 1
          · intro wq hSw
            try dsimp only at hSw
            go_simp
            try (with_reducible rfl)
          try simp only [Act.put, List.setIfInBounds_toArray, List.set_cons_zero, List.set_cons_succ]
          refine wpAnyH_take (i := 9) (v := ?_) (by simp only [List.getElem?_toArray, List.getElem?_cons_succ, List.getElem?_cons_zero]; rfl) (by kernel_rfl) (by kernel_rfl) (by kernel_rfl) (by intro _ _ _ h; exact h) (Or.inl ⟨by rfl, ?_⟩) hHeld ?_
          rotate_left 1
          · intro wq hSw
            try dsimp only at hSw
            go_simp
            try (with_reducible rfl)
          try simp only [Act.put, List.setIfInBounds_toArray, List.set_cons_zero, List.set_cons_succ]
          refine wpAnyH_take (i := 10) (v := ?_) (by simp only [List.getElem?_toArray, List.getElem?_cons_succ, List.getElem?_cons_zero]; rfl) (by kernel_rfl) (by kernel_rfl) (by kernel_rfl) (by intro _ _ _ h; exact h) (Or.inl ⟨by rfl, ?_⟩) hHeld ?_
          rotate_left 1
          · intro wq hSw
            try dsimp only at hSw
            go_simp
            try (with_reducible rfl)
          try simp only [Act.put, List.setIfInBounds_toArray, List.set_cons_zero, List.set_cons_succ]
          refine wpAnyH_take (i := 11) (v := ?_) (by simp only [List.getElem?_toArray, List.getElem?_cons_succ, List.getElem?_cons_zero]; rfl) (by kernel_rfl) (by kernel_rfl) (by kernel_rfl) (by intro _ _ _ h; exact h) (Or.inl ⟨by rfl, ?_⟩) hHeld ?_
          rotate_left 1
          · intro wq hSw
            try dsimp only at hSw
            go_simp
            try (with_reducible rfl)
          try simp only [Act.put, List.setIfInBounds_toArray, List.set_cons_zero, List.set_cons_succ]
          refine wpAnyH_done (by kernel_rfl) ?_ _
          have bq := bb3.trans ((bd.trans (b4.mono bd.size)).mono (Nat.le_of_lt h3.lt))
          clear hm4 hHeld
          go_wp2_with fail
          refine (dclose_any w4 h5 hsm).mono ?_
          rintro e w6 ⟨rfl, h6, b6⟩
          go_wp2
          go_ret
          obtain ⟨e1, e2⟩ := e0.out
          obtain ⟨e3, e4, e5⟩ := e9.out
          rw [e1, e2, e3, e4, e5]
          exact ⟨rfl, h6, bq.trans b6⟩
        by_cases hk5 : kd = 5
        · subst hk5
          have e0 : Hid (Zz = zs.map fsZ ∧ Er = 0) := by
            obtain ⟨h1, h2, h3, h4, h5⟩ := hall.out
            refine ⟨h4.trans ?_, h5.trans ?_⟩ <;> simp [ruZs, ruEr, goF, hc, hu, cmdZs, cmdEr]
          refine wp_region_held_drew (S := fun w' => Below w3.heap.size w3 w') (by kernel_rfl) (Below.refl _ _).drew (fun hHeld => ?_)
          try dsimp only at hHeld
          have bd : Below w3.heap.size w3 w3.drew := (Below.refl w3.heap.size w3).drew
          have h4 := h3.under bd
          generalize w3.drew = wd at *
          try simp only [Act.put, List.setIfInBounds_toArray, List.set_cons_zero, List.set_cons_succ]
          refine wpAnyH_take (i := 1) (v := ?_) (by simp only [List.getElem?_toArray, List.getElem?_cons_succ, List.getElem?_cons_zero]; rfl) (by kernel_rfl) (by kernel_rfl) (by kernel_rfl) (by intro _ _ _ h; exact h) (Or.inl ⟨by rfl, ?_⟩) hHeld ?_
          rotate_left 1
          · intro wq hSw
            try dsimp only at hSw
            go_simp
            try (with_reducible rfl)
          try simp only [Act.put, List.setIfInBounds_toArray, List.set_cons_zero, List.set_cons_succ]
          refine wpAnyH_take (i := 2) (v := ?_) (by simp only [List.getElem?_toArray, List.getElem?_cons_succ, List.getElem?_cons_zero]; rfl) (by kernel_rfl) (by kernel_rfl) (by kernel_rfl) (by intro _ _ _ h; exact h) (Or.inl ⟨by rfl, ?_⟩) hHeld ?_
          rotate_left 1
          · intro wq hSw
            try dsimp only at hSw
            go_simp
            try (with_reducible rfl)
          try simp only [Act.put, List.setIfInBounds_toArray, List.set_cons_zero, List.set_cons_succ]
          refine wpAnyH_take (i := 3) (v := ?_) (by simp only [List.getElem?_toArray, List.getElem?_cons_succ, List.getElem?_cons_zero]; rfl) (by kernel_rfl) (by kernel_rfl) (by kernel_rfl) (by intro _ _ _ h; exact h) (Or.inl ⟨by rfl, ?_⟩) hHeld ?_
          rotate_left 1
          · intro wq hSw
            try dsimp only at hSw
            go_simp
            try (with_reducible rfl)
          try simp only [Act.put, List.setIfInBounds_toArray, List.set_cons_zero, List.set_cons_succ]
          refine wpAnyH_take (i := 4) (v := ?_) (by simp only [List.getElem?_toArray, List.getElem?_cons_succ, List.getElem?_cons_zero]; rfl) (by kernel_rfl) (by kernel_rfl) (by kernel_rfl) (by intro _ _ _ h; exact h) (Or.inl ⟨by rfl, ?_⟩) hHeld ?_
          rotate_left 1
          · intro wq hSw
            try dsimp only at hSw
            go_simp
            try (with_reducible rfl)
          try simp only [Act.put, List.setIfInBounds_toArray, List.set_cons_zero, List.set_cons_succ]
          refine wpAnyH_take (i := 5) (v := ?_) (by simp only [List.getElem?_toArray, List.getElem?_cons_succ, List.getElem?_cons_zero]; rfl) (by kernel_rfl) (by kernel_rfl) (by kernel_rfl) (by intro _ _ _ h; exact h) (Or.inl ⟨by rfl, ?_⟩) hHeld ?_
          rotate_left 1
          · intro wq hSw
            try dsimp only at hSw
            obtain ⟨x0, x1, x2, x3, x4, x5, x6, x7, _⟩ := (h3.blk.under hSw).eight
            go_simp
            try (with_reducible rfl)
          try simp only [Act.put, List.setIfInBounds_toArray, List.set_cons_zero, List.set_cons_succ]
          refine wpAnyH_ready (rs := [0]) (by kernel_rfl) (by simp) ?_
          refine AllReadyH.cons (by simp only [List.getElem?_toArray, List.getElem?_cons_zero]; rfl) (fun K hK => ?_) AllReadyH.nil
          have hC := dcommands_any wd
          go_simp
          refine hC.mono ?_
          clear hC
          rintro e w4 ⟨rfl, hw4⟩
          have b4 : Below wd.heap.size wd w4 := by rw [hw4]; exact (Below.refl _ _).alloc (Nat.le_refl _) _
          have hm4 : w4.heap[wd.heap.size]? = some (.map cmdES 5) := by rw [hw4]; exact (MapKept.heap_alloc wd _).1
          clear hw4
          go_wp2_with fail
          refine hK.out _ _ (bd.trans (b4.mono bd.size)) (fun _ => wpAnyH_stronger (S' := fun w' => Below w4.heap.size w4 w') (fun w' h => Below.trans (bd.trans (b4.mono bd.size)) (h.mono (Nat.le_trans bd.size b4.size))) _ _ _ _ ?_)
          clear hK K hHeld
          have hHeld := Below.refl w4.heap.size w4
          have h5 := h4.under b4
          try simp only [Act.put, List.setIfInBounds_toArray, List.set_cons_zero, List.set_cons_succ]
          refine wpAnyH_take (i := 6) (v := ?_) (by simp only [List.getElem?_toArray, List.getElem?_cons_succ, List.getElem?_cons_zero]; rfl) (by kernel_rfl) (by kernel_rfl) (by kernel_rfl) (by intro _ _ _ h; exact h) (Or.inl ⟨by rfl, ?_⟩) hHeld ?_
          rotate_left 1
          · intro wq hSw
            try dsimp only at hSw
            have hmq := (hSw.block _ (Array.getElem?_eq_some_iff.1 hm4).1).trans hm4
            have hlk := run_lookm wq _ cmdES 5 5 hmq 4 (.func (.func 45) #[] #[]) rfl
            go_simp
            try (with_reducible rfl)
          try simp only [Act.put, List.setIfInBounds_toArray, List.set_cons_zero, List.set_cons_succ]
          refine wpAnyH_take (i := 7) (v := ?_) (by simp only [List.getElem?_toArray, List.getElem?_cons_succ, List.getElem?_cons_zero]; rfl) (by kernel_rfl) (by kernel_rfl) (by kernel_rfl) (by intro _ _ _ h; exact h) (Or.inl ⟨by rfl, ?_⟩) hHeld ?_
          rotate_left 1
          · intro wq hSw
            try dsimp only at hSw
            go_simp
            try (with_reducible rfl)
          try simp only [Act.put, List.setIfInBounds_toArray, List.set_cons_zero, List.set_cons_succ]
          refine wpAnyH_take (i := 8) (v := ?_) (by simp only [List.getElem?_toArray, List.getElem?_cons_succ, List.getElem?_cons_zero]; rfl) (by kernel_rfl) (by kernel_rfl) (by kernel_rfl) (by intro _ _ _ h; exact h) (Or.inl ⟨by rfl, ?_⟩) hHeld ?_
          rotate_left 1
          · intro wq hSw
            try dsimp only at hSw
            go_simp
            try (with_reducible rfl)
          try simp only [Act.put, List.setIfInBounds_toArray, List.set_cons_zero, List.set_cons_succ]
          refine wpAnyH_take (i := 9) (v := ?_) (by simp only [List.getElem?_toArray, List.getElem?_cons_succ, List.getElem?_cons_zero]; rfl) (by kernel_rfl) (by kernel_rfl) (by kernel_rfl) (by intro _ _ _ h; exact h) (Or.inl ⟨by rfl, ?_⟩) hHeld ?_
          rotate_left 1
          · intro wq hSw
            try dsimp only at hSw
            go_simp
            try (with_reducible rfl)
          try simp only [Act.put, List.setIfInBounds_toArray, List.set_cons_zero, List.set_cons_succ]
          refine wpAnyH_take (i := 10) (v := ?_) (by simp only [List.getElem?_toArray, List.getElem?_cons_succ, List.getElem?_cons_zero]; rfl) (by kernel_rfl) (by kernel_rfl) (by kernel_rfl) (by intro _ _ _ h; exact h) (Or.inl ⟨by rfl, ?_⟩) hHeld ?_
          rotate_left 1
          · intro wq hSw
            try dsimp only at hSw
            go_simp
            try (with_reducible rfl)
          try simp only [Act.put, List.setIfInBounds_toArray, List.set_cons_zero, List.set_cons_succ]
          refine wpAnyH_take (i := 11) (v := ?_) (by simp only [List.getElem?_toArray, List.getElem?_cons_succ, List.getElem?_cons_zero]; rfl) (by kernel_rfl) (by kernel_rfl) (by kernel_rfl) (by intro _ _ _ h; exact h) (Or.inl ⟨by rfl, ?_⟩) hHeld ?_
          rotate_left 1
          · intro wq hSw
            try dsimp only at hSw
            go_simp
            try (with_reducible rfl)
          try simp only [Act.put, List.setIfInBounds_toArray, List.set_cons_zero, List.set_cons_succ]
          refine wpAnyH_done (by kernel_rfl) ?_ _
          have bq := bb3.trans ((bd.trans (b4.mono bd.size)).mono (Nat.le_of_lt h3.lt))
          clear hm4 hHeld
          go_wp2_with fail
          refine (dflush_any w4 h5 hsm).mono ?_
          rintro e w6 ⟨rfl, h6, b6⟩
          go_wp2
          go_ret
          obtain ⟨e1, e2⟩ := e0.out
          obtain ⟨e3, e4, e5⟩ := e9.out
          rw [e1, e2, e3, e4, e5]
          exact ⟨rfl, h6, bq.trans b6⟩
        have e0 : Hid (Zz = zs ∧ Er = 1) := by
          obtain ⟨h1, h2, h3, h4, h5⟩ := hall.out
          refine ⟨h4.trans ?_, h5.trans ?_⟩ <;> simp [ruZs, ruEr, goF, hc, hu, cmdZs, cmdEr, hk1, hk2, hk3, hk4, hk5]
        have hno := find_no kd (by simpa using hk1) (by simpa using hk2) (by simpa using hk3) (by simpa using hk4) (by simpa using hk5)
        refine wp_region_held_drew (S := fun w' => Below w3.heap.size w3 w') (by kernel_rfl) (Below.refl _ _).drew (fun hHeld => ?_)
        try dsimp only at hHeld
        have bd : Below w3.heap.size w3 w3.drew := (Below.refl w3.heap.size w3).drew
        have h4 := h3.under bd
        generalize w3.drew = wd at *
        try simp only [Act.put, List.setIfInBounds_toArray, List.set_cons_zero, List.set_cons_succ]
        refine wpAnyH_take (i := 1) (v := ?_) (by simp only [List.getElem?_toArray, List.getElem?_cons_succ, List.getElem?_cons_zero]; rfl) (by kernel_rfl) (by kernel_rfl) (by kernel_rfl) (by intro _ _ _ h; exact h) (Or.inl ⟨by rfl, ?_⟩) hHeld ?_
        rotate_left 1
        · intro wq hSw
          try dsimp only at hSw
          go_simp
          try (with_reducible rfl)
        try simp only [Act.put, List.setIfInBounds_toArray, List.set_cons_zero, List.set_cons_succ]
        refine wpAnyH_take (i := 2) (v := ?_) (by simp only [List.getElem?_toArray, List.getElem?_cons_succ, List.getElem?_cons_zero]; rfl) (by kernel_rfl) (by kernel_rfl) (by kernel_rfl) (by intro _ _ _ h; exact h) (Or.inl ⟨by rfl, ?_⟩) hHeld ?_
        rotate_left 1
        · intro wq hSw
          try dsimp only at hSw
          go_simp
          try (with_reducible rfl)
        try simp only [Act.put, List.setIfInBounds_toArray, List.set_cons_zero, List.set_cons_succ]
        refine wpAnyH_take (i := 3) (v := ?_) (by simp only [List.getElem?_toArray, List.getElem?_cons_succ, List.getElem?_cons_zero]; rfl) (by kernel_rfl) (by kernel_rfl) (by kernel_rfl) (by intro _ _ _ h; exact h) (Or.inl ⟨by rfl, ?_⟩) hHeld ?_
        rotate_left 1
        · intro wq hSw
          try dsimp only at hSw
          go_simp
          try (with_reducible rfl)
        try simp only [Act.put, List.setIfInBounds_toArray, List.set_cons_zero, List.set_cons_succ]
        refine wpAnyH_take (i := 4) (v := ?_) (by simp only [List.getElem?_toArray, List.getElem?_cons_succ, List.getElem?_cons_zero]; rfl) (by kernel_rfl) (by kernel_rfl) (by kernel_rfl) (by intro _ _ _ h; exact h) (Or.inl ⟨by rfl, ?_⟩) hHeld ?_
        rotate_left 1
        · intro wq hSw
          try dsimp only at hSw
          go_simp
          try (with_reducible rfl)
        try simp only [Act.put, List.setIfInBounds_toArray, List.set_cons_zero, List.set_cons_succ]
        refine wpAnyH_take (i := 5) (v := ?_) (by simp only [List.getElem?_toArray, List.getElem?_cons_succ, List.getElem?_cons_zero]; rfl) (by kernel_rfl) (by kernel_rfl) (by kernel_rfl) (by intro _ _ _ h; exact h) (Or.inl ⟨by rfl, ?_⟩) hHeld ?_
        rotate_left 1
        · intro wq hSw
          try dsimp only at hSw
          obtain ⟨x0, x1, x2, x3, x4, x5, x6, x7, _⟩ := (h3.blk.under hSw).eight
          go_simp
          try (with_reducible rfl)
        try simp only [Act.put, List.setIfInBounds_toArray, List.set_cons_zero, List.set_cons_succ]
        refine wpAnyH_ready (rs := [0]) (by kernel_rfl) (by simp) ?_
        refine AllReadyH.cons (by simp only [List.getElem?_toArray, List.getElem?_cons_zero]; rfl) (fun K hK => ?_) AllReadyH.nil
        have hC := dcommands_any wd
        go_simp
        refine hC.mono ?_
        clear hC
        rintro e w4 ⟨rfl, hw4⟩
        have b4 : Below wd.heap.size wd w4 := by rw [hw4]; exact (Below.refl _ _).alloc (Nat.le_refl _) _
        have hm4 : w4.heap[wd.heap.size]? = some (.map cmdES 5) := by rw [hw4]; exact (MapKept.heap_alloc wd _).1
        clear hw4
        go_wp2_with fail
        refine hK.out _ _ (bd.trans (b4.mono bd.size)) (fun _ => wpAnyH_stronger (S' := fun w' => Below w4.heap.size w4 w') (fun w' h => Below.trans (bd.trans (b4.mono bd.size)) (h.mono (Nat.le_trans bd.size b4.size))) _ _ _ _ ?_)
        clear hK K hHeld
        have hHeld := Below.refl w4.heap.size w4
        have h5 := h4.under b4
        try simp only [Act.put, List.setIfInBounds_toArray, List.set_cons_zero, List.set_cons_succ]
        refine wpAnyH_take (i := 6) (v := ?_) (by simp only [List.getElem?_toArray, List.getElem?_cons_succ, List.getElem?_cons_zero]; rfl) (by kernel_rfl) (by kernel_rfl) (by kernel_rfl) (by intro _ _ _ h; exact h) (Or.inl ⟨by rfl, ?_⟩) hHeld ?_
        rotate_left 1
        · intro wq hSw
          try dsimp only at hSw
          have hmq := (hSw.block _ (Array.getElem?_eq_some_iff.1 hm4).1).trans hm4
          have hlk := run_lookm_no wq _ cmdES 5 kd hmq hno
          go_simp
          try (with_reducible rfl)
        try simp only [Act.put, List.setIfInBounds_toArray, List.set_cons_zero, List.set_cons_succ]
        refine wpAnyH_take (i := 7) (v := ?_) (by simp only [List.getElem?_toArray, List.getElem?_cons_succ, List.getElem?_cons_zero]; rfl) (by kernel_rfl) (by kernel_rfl) (by kernel_rfl) (by intro _ _ _ h; exact h) (Or.inl ⟨by rfl, ?_⟩) hHeld ?_
        rotate_left 1
        · intro wq hSw
          try dsimp only at hSw
          go_simp
          try (with_reducible rfl)
        try simp only [Act.put, List.setIfInBounds_toArray, List.set_cons_zero, List.set_cons_succ]
        refine wpAnyH_take (i := 8) (v := ?_) (by simp only [List.getElem?_toArray, List.getElem?_cons_succ, List.getElem?_cons_zero]; rfl) (by kernel_rfl) (by kernel_rfl) (by kernel_rfl) (by intro _ _ _ h; exact h) (Or.inl ⟨by rfl, ?_⟩) hHeld ?_
        rotate_left 1
        · intro wq hSw
          try dsimp only at hSw
          go_simp
          try (with_reducible rfl)
        try simp only [Act.put, List.setIfInBounds_toArray, List.set_cons_zero, List.set_cons_succ]
        refine wpAnyH_take (i := 9) (v := ?_) (by simp only [List.getElem?_toArray, List.getElem?_cons_succ, List.getElem?_cons_zero]; rfl) (by kernel_rfl) (by kernel_rfl) (by kernel_rfl) (by intro _ _ _ h; exact h) (Or.inl ⟨by rfl, ?_⟩) hHeld ?_
        rotate_left 1
        · intro wq hSw
          try dsimp only at hSw
          go_simp
          try (with_reducible rfl)
        try simp only [Act.put, List.setIfInBounds_toArray, List.set_cons_zero, List.set_cons_succ]
        refine wpAnyH_take (i := 10) (v := ?_) (by simp only [List.getElem?_toArray, List.getElem?_cons_succ, List.getElem?_cons_zero]; rfl) (by kernel_rfl) (by kernel_rfl) (by kernel_rfl) (by intro _ _ _ h; exact h) (Or.inl ⟨by rfl, ?_⟩) hHeld ?_
        rotate_left 1
        · intro wq hSw
          try dsimp only at hSw
          go_simp
          try (with_reducible rfl)
        try simp only [Act.put, List.setIfInBounds_toArray, List.set_cons_zero, List.set_cons_succ]
        refine wpAnyH_take (i := 11) (v := ?_) (by simp only [List.getElem?_toArray, List.getElem?_cons_succ, List.getElem?_cons_zero]; rfl) (by kernel_rfl) (by kernel_rfl) (by kernel_rfl) (by intro _ _ _ h; exact h) (Or.inl ⟨by rfl, ?_⟩) hHeld ?_
        rotate_left 1
        · intro wq hSw
          try dsimp only at hSw
          go_simp
          try (with_reducible rfl)
        try simp only [Act.put, List.setIfInBounds_toArray, List.set_cons_zero, List.set_cons_succ]
        refine wpAnyH_done (by kernel_rfl) ?_ _
        have bq := bb3.trans ((bd.trans (b4.mono bd.size)).mono (Nat.le_of_lt h3.lt))
        clear hm4 hHeld hno
        go_wp2
        go_ret
        obtain ⟨e1, e2⟩ := e0.out
        obtain ⟨e3, e4, e5⟩ := e9.out
        rw [e1, e2, e3, e4, e5]
        exact h5.post 1 bq
      · have e9 : Hid (Lf = lf ∧ Dn = wrap64 (dn + 1) ∧ Dw = false) := by
          obtain ⟨h1, h2, h3, h4, h5⟩ := hall.out
          refine ⟨h1.trans ?_, h2.trans ?_, h3.trans ?_⟩ <;> simp [ruLf, ruDn, ruDw, goF, hc, hu, hp]
        obtain ⟨dn1, hdn1⟩ : ∃ x, wrap64 (dn + 1) = x := ⟨_, rfl⟩
        rw [hdn1] at e9
        clear hw1
        go_wp2_with fail
        have h3 := h.done dn1
        have bb3 := bb.setCell (p := ⟨kw, 4, none⟩) hat (.int .i64 dn1)
        clear p0 p1 p2 p3 p4 p5 p6 p7 f0 f1 f2 f3 f4 f5 f6 f7
        generalize w1.setCell ⟨kw, 4, none⟩ (.int .i64 dn1) = w3 at *
        clear h bb hdn1
        by_cases hk1 : kd = 1
        · subst hk1
          have e0 : Hid (Zz = chgZs zs N (apH size (openF zs) b) (apE size (openF zs) b) ∧ Er = chgEr zs N (apE size (openF zs) b)) := by
            obtain ⟨h1, h2, h3, h4, h5⟩ := hall.out
            refine ⟨h4.trans ?_, h5.trans ?_⟩ <;> simp [ruZs, ruEr, goF, hc, hu, cmdZs, cmdEr]
          refine wp_region_held_drew (S := fun w' => Below w3.heap.size w3 w') (by kernel_rfl) (Below.refl _ _).drew (fun hHeld => ?_)
          try dsimp only at hHeld
          have bd : Below w3.heap.size w3 w3.drew := (Below.refl w3.heap.size w3).drew
          have h4 := h3.under bd
          generalize w3.drew = wd at *
          try simp only [Act.put, List.setIfInBounds_toArray, List.set_cons_zero, List.set_cons_succ]
          refine wpAnyH_take (i := 1) (v := ?_) (by simp only [List.getElem?_toArray, List.getElem?_cons_succ, List.getElem?_cons_zero]; rfl) (by kernel_rfl) (by kernel_rfl) (by kernel_rfl) (by intro _ _ _ h; exact h) (Or.inl ⟨by rfl, ?_⟩) hHeld ?_
          rotate_left 1
          · intro wq hSw
            try dsimp only at hSw
            go_simp
            try (with_reducible rfl)
          try simp only [Act.put, List.setIfInBounds_toArray, List.set_cons_zero, List.set_cons_succ]
          refine wpAnyH_take (i := 2) (v := ?_) (by simp only [List.getElem?_toArray, List.getElem?_cons_succ, List.getElem?_cons_zero]; rfl) (by kernel_rfl) (by kernel_rfl) (by kernel_rfl) (by intro _ _ _ h; exact h) (Or.inl ⟨by rfl, ?_⟩) hHeld ?_
          rotate_left 1
          · intro wq hSw
            try dsimp only at hSw
            go_simp
            try (with_reducible rfl)
          try simp only [Act.put, List.setIfInBounds_toArray, List.set_cons_zero, List.set_cons_succ]
          refine wpAnyH_take (i := 3) (v := ?_) (by simp only [List.getElem?_toArray, List.getElem?_cons_succ, List.getElem?_cons_zero]; rfl) (by kernel_rfl) (by kernel_rfl) (by kernel_rfl) (by intro _ _ _ h; exact h) (Or.inl ⟨by rfl, ?_⟩) hHeld ?_
          rotate_left 1
          · intro wq hSw
            try dsimp only at hSw
            go_simp
            try (with_reducible rfl)
          try simp only [Act.put, List.setIfInBounds_toArray, List.set_cons_zero, List.set_cons_succ]
          refine wpAnyH_take (i := 4) (v := ?_) (by simp only [List.getElem?_toArray, List.getElem?_cons_succ, List.getElem?_cons_zero]; rfl) (by kernel_rfl) (by kernel_rfl) (by kernel_rfl) (by intro _ _ _ h; exact h) (Or.inl ⟨by rfl, ?_⟩) hHeld ?_
          rotate_left 1
          · intro wq hSw
            try dsimp only at hSw
            go_simp
            try (with_reducible rfl)
          try simp only [Act.put, List.setIfInBounds_toArray, List.set_cons_zero, List.set_cons_succ]
          refine wpAnyH_take (i := 5) (v := ?_) (by simp only [List.getElem?_toArray, List.getElem?_cons_succ, List.getElem?_cons_zero]; rfl) (by kernel_rfl) (by kernel_rfl) (by kernel_rfl) (by intro _ _ _ h; exact h) (Or.inl ⟨by rfl, ?_⟩) hHeld ?_
          rotate_left 1
          · intro wq hSw
            try dsimp only at hSw
            obtain ⟨x0, x1, x2, x3, x4, x5, x6, x7, _⟩ := (h3.blk.under hSw).eight
            go_simp
            try (with_reducible rfl)
          try simp only [Act.put, List.setIfInBounds_toArray, List.set_cons_zero, List.set_cons_succ]
          refine wpAnyH_ready (rs := [0]) (by kernel_rfl) (by simp) ?_
          refine AllReadyH.cons (by simp only [List.getElem?_toArray, List.getElem?_cons_zero]; rfl) (fun K hK => ?_) AllReadyH.nil
          have hC := dcommands_any wd
          go_simp
          refine hC.mono ?_
          clear hC
          rintro e w4 ⟨rfl, hw4⟩
          have b4 : Below wd.heap.size wd w4 := by rw [hw4]; exact (Below.refl _ _).alloc (Nat.le_refl _) _
          have hm4 : w4.heap[wd.heap.size]? = some (.map cmdES 5) := by rw [hw4]; exact (MapKept.heap_alloc wd _).1
          clear hw4
          go_wp2_with fail
          refine hK.out _ _ (bd.trans (b4.mono bd.size)) (fun _ => wpAnyH_stronger (S' := fun w' => Below w4.heap.size w4 w') (fun w' h => Below.trans (bd.trans (b4.mono bd.size)) (h.mono (Nat.le_trans bd.size b4.size))) _ _ _ _ ?_)
          clear hK K hHeld
          have hHeld := Below.refl w4.heap.size w4
          have h5 := h4.under b4
          try simp only [Act.put, List.setIfInBounds_toArray, List.set_cons_zero, List.set_cons_succ]
          refine wpAnyH_take (i := 6) (v := ?_) (by simp only [List.getElem?_toArray, List.getElem?_cons_succ, List.getElem?_cons_zero]; rfl) (by kernel_rfl) (by kernel_rfl) (by kernel_rfl) (by intro _ _ _ h; exact h) (Or.inl ⟨by rfl, ?_⟩) hHeld ?_
          rotate_left 1
          · intro wq hSw
            try dsimp only at hSw
            have hmq := (hSw.block _ (Array.getElem?_eq_some_iff.1 hm4).1).trans hm4
            have hlk := run_lookm wq _ cmdES 5 1 hmq 0 (.func (.func 41) #[] #[]) rfl
            go_simp
            try (with_reducible rfl)
          try simp only [Act.put, List.setIfInBounds_toArray, List.set_cons_zero, List.set_cons_succ]
          refine wpAnyH_take (i := 7) (v := ?_) (by simp only [List.getElem?_toArray, List.getElem?_cons_succ, List.getElem?_cons_zero]; rfl) (by kernel_rfl) (by kernel_rfl) (by kernel_rfl) (by intro _ _ _ h; exact h) (Or.inl ⟨by rfl, ?_⟩) hHeld ?_
          rotate_left 1
          · intro wq hSw
            try dsimp only at hSw
            go_simp
            try (with_reducible rfl)
          try simp only [Act.put, List.setIfInBounds_toArray, List.set_cons_zero, List.set_cons_succ]
          refine wpAnyH_take (i := 8) (v := ?_) (by simp only [List.getElem?_toArray, List.getElem?_cons_succ, List.getElem?_cons_zero]; rfl) (by kernel_rfl) (by kernel_rfl) (by kernel_rfl) (by intro _ _ _ h; exact h) (Or.inl ⟨by rfl, ?_⟩) hHeld ?_
          rotate_left 1
          · intro wq hSw
            try dsimp only at hSw
            go_simp
            try (with_reducible rfl)
          try simp only [Act.put, List.setIfInBounds_toArray, List.set_cons_zero, List.set_cons_succ]
          refine wpAnyH_take (i := 9) (v := ?_) (by simp only [List.getElem?_toArray, List.getElem?_cons_succ, List.getElem?_cons_zero]; rfl) (by kernel_rfl) (by kernel_rfl) (by kernel_rfl) (by intro _ _ _ h; exact h) (Or.inl ⟨by rfl, ?_⟩) hHeld ?_
          rotate_left 1
          · intro wq hSw
            try dsimp only at hSw
            go_simp
            try (with_reducible rfl)
          try simp only [Act.put, List.setIfInBounds_toArray, List.set_cons_zero, List.set_cons_succ]
          refine wpAnyH_take (i := 10) (v := ?_) (by simp only [List.getElem?_toArray, List.getElem?_cons_succ, List.getElem?_cons_zero]; rfl) (by kernel_rfl) (by kernel_rfl) (by kernel_rfl) (by intro _ _ _ h; exact h) (Or.inl ⟨by rfl, ?_⟩) hHeld ?_
          rotate_left 1
          · intro wq hSw
            try dsimp only at hSw
            go_simp
            try (with_reducible rfl)
          try simp only [Act.put, List.setIfInBounds_toArray, List.set_cons_zero, List.set_cons_succ]
          refine wpAnyH_take (i := 11) (v := ?_) (by simp only [List.getElem?_toArray, List.getElem?_cons_succ, List.getElem?_cons_zero]; rfl) (by kernel_rfl) (by kernel_rfl) (by kernel_rfl) (by intro _ _ _ h; exact h) (Or.inl ⟨by rfl, ?_⟩) hHeld ?_
          rotate_left 1
          · intro wq hSw
            try dsimp only at hSw
            go_simp
            try (with_reducible rfl)
          try simp only [Act.put, List.setIfInBounds_toArray, List.set_cons_zero, List.set_cons_succ]
          refine wpAnyH_done (by kernel_rfl) ?_ _
          have bq := bb3.trans ((bd.trans (b4.mono bd.size)).mono (Nat.le_of_lt h3.lt))
          clear hm4 hHeld
          go_wp2_with fail
          refine (dappend_any w4 h5 hsm hnd).mono ?_
          rintro e w6 ⟨rfl, h6, b6⟩
          go_wp2
          go_ret
          obtain ⟨e1, e2⟩ := e0.out
          obtain ⟨e3, e4, e5⟩ := e9.out
          rw [e1, e2, e3, e4, e5]
          exact ⟨rfl, h6, bq.trans b6⟩
        by_cases hk2 : kd = 2
        · subst hk2
          have e0 : Hid (Zz = chgZs zs N rsH rsE ∧ Er = chgEr zs N rsE) := by
            obtain ⟨h1, h2, h3, h4, h5⟩ := hall.out
            refine ⟨h4.trans ?_, h5.trans ?_⟩ <;> simp [ruZs, ruEr, goF, hc, hu, cmdZs, cmdEr]
          refine wp_region_held_drew (S := fun w' => Below w3.heap.size w3 w') (by kernel_rfl) (Below.refl _ _).drew (fun hHeld => ?_)
          try dsimp only at hHeld
          have bd : Below w3.heap.size w3 w3.drew := (Below.refl w3.heap.size w3).drew
          have h4 := h3.under bd
          generalize w3.drew = wd at *
          try simp only [Act.put, List.setIfInBounds_toArray, List.set_cons_zero, List.set_cons_succ]
          refine wpAnyH_take (i := 1) (v := ?_) (by simp only [List.getElem?_toArray, List.getElem?_cons_succ, List.getElem?_cons_zero]; rfl) (by kernel_rfl) (by kernel_rfl) (by kernel_rfl) (by intro _ _ _ h; exact h) (Or.inl ⟨by rfl, ?_⟩) hHeld ?_
          rotate_left 1
          · intro wq hSw
            try dsimp only at hSw
            go_simp
            try (with_reducible rfl)
          try simp only [Act.put, List.setIfInBounds_toArray, List.set_cons_zero, List.set_cons_succ]
          refine wpAnyH_take (i := 2) (v := ?_) (by simp only [List.getElem?_toArray, List.getElem?_cons_succ, List.getElem?_cons_zero]; rfl) (by kernel_rfl) (by kernel_rfl) (by kernel_rfl) (by intro _ _ _ h; exact h) (Or.inl ⟨by rfl, ?_⟩) hHeld ?_
          rotate_left 1
          · intro wq hSw
            try dsimp only at hSw
            go_simp
            try (with_reducible rfl)
          try simp only [Act.put, List.setIfInBounds_toArray, List.set_cons_zero, List.set_cons_succ]
          refine wpAnyH_take (i := 3) (v := ?_) (by simp only [List.getElem?_toArray, List.getElem?_cons_succ, List.getElem?_cons_zero]; rfl) (by kernel_rfl) (by kernel_rfl) (by kernel_rfl) (by intro _ _ _ h; exact h) (Or.inl ⟨by rfl, ?_⟩) hHeld ?_
          rotate_left 1
          · intro wq hSw
            try dsimp only at hSw
            go_simp
            try (with_reducible rfl)
          try simp only [Act.put, List.setIfInBounds_toArray, List.set_cons_zero, List.set_cons_succ]
          refine wpAnyH_take (i := 4) (v := ?_) (by simp only [List.getElem?_toArray, List.getElem?_cons_succ, List.getElem?_cons_zero]; rfl) (by kernel_rfl) (by kernel_rfl) (by kernel_rfl) (by intro _ _ _ h; exact h) (Or.inl ⟨by rfl, ?_⟩) hHeld ?_
          rotate_left 1
          · intro wq hSw
            try dsimp only at hSw
            go_simp
            try (with_reducible rfl)
          try simp only [Act.put, List.setIfInBounds_toArray, List.set_cons_zero, List.set_cons_succ]
          refine wpAnyH_take (i := 5) (v := ?_) (by simp only [List.getElem?_toArray, List.getElem?_cons_succ, List.getElem?_cons_zero]; rfl) (by kernel_rfl) (by kernel_rfl) (by kernel_rfl) (by intro _ _ _ h; exact h) (Or.inl ⟨by rfl, ?_⟩) hHeld ?_
          rotate_left 1
          · intro wq hSw
            try dsimp only at hSw
            obtain ⟨x0, x1, x2, x3, x4, x5, x6, x7, _⟩ := (h3.blk.under hSw).eight
            go_simp
            try (with_reducible rfl)
          try simp only [Act.put, List.setIfInBounds_toArray, List.set_cons_zero, List.set_cons_succ]
          refine wpAnyH_ready (rs := [0]) (by kernel_rfl) (by simp) ?_
          refine AllReadyH.cons (by simp only [List.getElem?_toArray, List.getElem?_cons_zero]; rfl) (fun K hK => ?_) AllReadyH.nil
          have hC := dcommands_any wd
          go_simp
          refine hC.mono ?_
          clear hC
          rintro e w4 ⟨rfl, hw4⟩
          have b4 : Below wd.heap.size wd w4 := by rw [hw4]; exact (Below.refl _ _).alloc (Nat.le_refl _) _
          have hm4 : w4.heap[wd.heap.size]? = some (.map cmdES 5) := by rw [hw4]; exact (MapKept.heap_alloc wd _).1
          clear hw4
          go_wp2_with fail
          refine hK.out _ _ (bd.trans (b4.mono bd.size)) (fun _ => wpAnyH_stronger (S' := fun w' => Below w4.heap.size w4 w') (fun w' h => Below.trans (bd.trans (b4.mono bd.size)) (h.mono (Nat.le_trans bd.size b4.size))) _ _ _ _ ?_)
          clear hK K hHeld
          have hHeld := Below.refl w4.heap.size w4
          have h5 := h4.under b4
          try simp only [Act.put, List.setIfInBounds_toArray, List.set_cons_zero, List.set_cons_succ]
          refine wpAnyH_take (i := 6) (v := ?_) (by simp only [List.getElem?_toArray, List.getElem?_cons_succ, List.getElem?_cons_zero]; rfl) (by kernel_rfl) (by kernel_rfl) (by kernel_rfl) (by intro _ _ _ h; exact h) (Or.inl ⟨by rfl, ?_⟩) hHeld ?_
          rotate_left 1
          · intro wq hSw
            try dsimp only at hSw
            have hmq := (hSw.block _ (Array.getElem?_eq_some_iff.1 hm4).1).trans hm4
            have hlk := run_lookm wq _ cmdES 5 2 hmq 1 (.func (.func 42) #[] #[]) rfl
            go_simp
            try (with_reducible rfl)
          try simp only [Act.put, List.setIfInBounds_toArray, List.set_cons_zero, List.set_cons_succ]
          refine wpAnyH_take (i := 7) (v := ?_) (by simp only [List.getElem?_toArray, List.getElem?_cons_succ, List.getElem?_cons_zero]; rfl) (by kernel_rfl) (by kernel_rfl) (by kernel_rfl) (by intro _ _ _ h; exact h) (Or.inl ⟨by rfl, ?_⟩) hHeld ?_
          rotate_left 1
          · intro wq hSw
            try dsimp only at hSw
            go_simp
            try (with_reducible rfl)
          try simp only [Act.put, List.setIfInBounds_toArray, List.set_cons_zero, List.set_cons_succ]
          refine wpAnyH_take (i := 8) (v := ?_) (by simp only [List.getElem?_toArray, List.getElem?_cons_succ, List.getElem?_cons_zero]; rfl) (by kernel_rfl) (by kernel_rfl) (by kernel_rfl) (by intro _ _ _ h; exact h) (Or.inl ⟨by rfl, ?_⟩) hHeld ?_
          rotate_left 1
          · intro wq hSw
            try dsimp only at hSw
            go_simp
            try (with_reducible rfl)
          try simp only [Act.put, List.setIfInBounds_toArray, List.set_cons_zero, List.set_cons_succ]
          refine wpAnyH_take (i := 9) (v := ?_) (by simp only [List.getElem?_toArray, List.getElem?_cons_succ, List.getElem?_cons_zero]; rfl) (by kernel_rfl) (by kernel_rfl) (by kernel_rfl) (by intro _ _ _ h; exact h) (Or.inl ⟨by rfl, ?_⟩) hHeld ?_
          rotate_left 1
          · intro wq hSw
            try dsimp only at hSw
            go_simp
            try (with_reducible rfl)
          try simp only [Act.put, List.setIfInBounds_toArray, List.set_cons_zero, List.set_cons_succ]
          refine wpAnyH_take (i := 10) (v := ?_) (by simp only [List.getElem?_toArray, List.getElem?_cons_succ, List.getElem?_cons_zero]; rfl) (by kernel_rfl) (by kernel_rfl) (by kernel_rfl) (by intro _ _ _ h; exact h) (Or.inl ⟨by rfl, ?_⟩) hHeld ?_
          rotate_left 1
          · intro wq hSw
            try dsimp only at hSw
            go_simp
            try (with_reducible rfl)
          try simp only [Act.put, List.setIfInBounds_toArray, List.set_cons_zero, List.set_cons_succ]
          refine wpAnyH_take (i := 11) (v := ?_) (by simp only [List.getElem?_toArray, List.getElem?_cons_succ, List.getElem?_cons_zero]; rfl) (by kernel_rfl) (by kernel_rfl) (by kernel_rfl) (by intro _ _ _ h; exact h) (Or.inl ⟨by rfl, ?_⟩) hHeld ?_
          rotate_left 1
          · intro wq hSw
            try dsimp only at hSw
            go_simp
            try (with_reducible rfl)
          try simp only [Act.put, List.setIfInBounds_toArray, List.set_cons_zero, List.set_cons_succ]
          refine wpAnyH_done (by kernel_rfl) ?_ _
          have bq := bb3.trans ((bd.trans (b4.mono bd.size)).mono (Nat.le_of_lt h3.lt))
          clear hm4 hHeld
          go_wp2_with fail
          refine (dreset_any w4 h5 hsm).mono ?_
          rintro e w6 ⟨rfl, h6, b6⟩
          go_wp2
          go_ret
          obtain ⟨e1, e2⟩ := e0.out
          obtain ⟨e3, e4, e5⟩ := e9.out
          rw [e1, e2, e3, e4, e5]
          exact ⟨rfl, h6, bq.trans b6⟩
        by_cases hk3 : kd = 3
        · subst hk3
          have e0 : Hid (Zz = chgZs zs N fiH fiE ∧ Er = chgEr zs N fiE) := by
            obtain ⟨h1, h2, h3, h4, h5⟩ := hall.out
            refine ⟨h4.trans ?_, h5.trans ?_⟩ <;> simp [ruZs, ruEr, goF, hc, hu, cmdZs, cmdEr]
          refine wp_region_held_drew (S := fun w' => Below w3.heap.size w3 w') (by kernel_rfl) (Below.refl _ _).drew (fun hHeld => ?_)
          try dsimp only at hHeld
          have bd : Below w3.heap.size w3 w3.drew := (Below.refl w3.heap.size w3).drew
          have h4 := h3.under bd
          generalize w3.drew = wd at *
          try simp only [Act.put, List.setIfInBounds_toArray, List.set_cons_zero, List.set_cons_succ]
          refine wpAnyH_take (i := 1) (v := ?_) (by simp only [List.getElem?_toArray, List.getElem?_cons_succ, List.getElem?_cons_zero]; rfl) (by kernel_rfl) (by kernel_rfl) (by kernel_rfl) (by intro _ _ _ h; exact h) (Or.inl ⟨by rfl, ?_⟩) hHeld ?_
          rotate_left 1
          · intro wq hSw
            try dsimp only at hSw
            go_simp
            try (with_reducible rfl)
          try simp only [Act.put, List.setIfInBounds_toArray, List.set_cons_zero, List.set_cons_succ]
          refine wpAnyH_take (i := 2) (v := ?_) (by simp only [List.getElem?_toArray, List.getElem?_cons_succ, List.getElem?_cons_zero]; rfl) (by kernel_rfl) (by kernel_rfl) (by kernel_rfl) (by intro _ _ _ h; exact h) (Or.inl ⟨by rfl, ?_⟩) hHeld ?_
          rotate_left 1
          · intro wq hSw
            try dsimp only at hSw
            go_simp
            try (with_reducible rfl)
          try simp only [Act.put, List.setIfInBounds_toArray, List.set_cons_zero, List.set_cons_succ]
          refine wpAnyH_take (i := 3) (v := ?_) (by simp only [List.getElem?_toArray, List.getElem?_cons_succ, List.getElem?_cons_zero]; rfl) (by kernel_rfl) (by kernel_rfl) (by kernel_rfl) (by intro _ _ _ h; exact h) (Or.inl ⟨by rfl, ?_⟩) hHeld ?_
          rotate_left 1
          · intro wq hSw
            try dsimp only at hSw
            go_simp
            try (with_reducible rfl)
          try simp only [Act.put, List.setIfInBounds_toArray, List.set_cons_zero, List.set_cons_succ]
          refine wpAnyH_take (i := 4) (v := ?_) (by simp only [List.getElem?_toArray, List.getElem?_cons_succ, List.getElem?_cons_zero]; rfl) (by kernel_rfl) (by kernel_rfl) (by kernel_rfl) (by intro _ _ _ h; exact h) (Or.inl ⟨by rfl, ?_⟩) hHeld ?_
          rotate_left 1
          · intro wq hSw
            try dsimp only at hSw
            go_simp
            try (with_reducible rfl)
          try simp only [Act.put, List.setIfInBounds_toArray, List.set_cons_zero, List.set_cons_succ]
          refine wpAnyH_take (i := 5) (v := ?_) (by simp only [List.getElem?_toArray, List.getElem?_cons_succ, List.getElem?_cons_zero]; rfl) (by kernel_rfl) (by kernel_rfl) (by kernel_rfl) (by intro _ _ _ h; exact h) (Or.inl ⟨by rfl, ?_⟩) hHeld ?_
          rotate_left 1
          · intro wq hSw
            try dsimp only at hSw
            obtain ⟨x0, x1, x2, x3, x4, x5, x6, x7, _⟩ := (h3.blk.under hSw).eight
            go_simp
            try (with_reducible rfl)
          try simp only [Act.put, List.setIfInBounds_toArray, List.set_cons_zero, List.set_cons_succ]
          refine wpAnyH_ready (rs := [0]) (by kernel_rfl) (by simp) ?_
          refine AllReadyH.cons (by simp only [List.getElem?_toArray, List.getElem?_cons_zero]; rfl) (fun K hK => ?_) AllReadyH.nil
          have hC := dcommands_any wd
          go_simp
          refine hC.mono ?_
          clear hC
          rintro e w4 ⟨rfl, hw4⟩
          have b4 : Below wd.heap.size wd w4 := by rw [hw4]; exact (Below.refl _ _).alloc (Nat.le_refl _) _
          have hm4 : w4.heap[wd.heap.size]? = some (.map cmdES 5) := by rw [hw4]; exact (MapKept.heap_alloc wd _).1
          clear hw4
          go_wp2_with fail
          refine hK.out _ _ (bd.trans (b4.mono bd.size)) (fun _ => wpAnyH_stronger (S' := fun w' => Below w4.heap.size w4 w') (fun w' h => Below.trans (bd.trans (b4.mono bd.size)) (h.mono (Nat.le_trans bd.size b4.size))) _ _ _ _ ?_)
          clear hK K hHeld
          have hHeld := Below.refl w4.heap.size w4
          have h5 := h4.under b4
          try simp only [Act.put, List.setIfInBounds_toArray, List.set_cons_zero, List.set_cons_succ]
          refine wpAnyH_take (i := 6) (v := ?_) (by simp only [List.getElem?_toArray, List.getElem?_cons_succ, List.getElem?_cons_zero]; rfl) (by kernel_rfl) (by kernel_rfl) (by kernel_rfl) (by intro _ _ _ h; exact h) (Or.inl ⟨by rfl, ?_⟩) hHeld ?_
          rotate_left 1
          · intro wq hSw
            try dsimp only at hSw
            have hmq := (hSw.block _ (Array.getElem?_eq_some_iff.1 hm4).1).trans hm4
            have hlk := run_lookm wq _ cmdES 5 3 hmq 2 (.func (.func 43) #[] #[]) rfl
            go_simp
            try (with_reducible rfl)
          try simp only [Act.put, List.setIfInBounds_toArray, List.set_cons_zero, List.set_cons_succ]
          refine wpAnyH_take (i := 7) (v := ?_) (by simp only [List.getElem?_toArray, List.getElem?_cons_succ, List.getElem?_cons_zero]; rfl) (by kernel_rfl) (by kernel_rfl) (by kernel_rfl) (by intro _ _ _ h; exact h) (Or.inl ⟨by rfl, ?_⟩) hHeld ?_
          rotate_left 1
          · intro wq hSw
            try dsimp only at hSw
            go_simp
            try (with_reducible rfl)
          try simp only [Act.put, List.setIfInBounds_toArray, List.set_cons_zero, List.set_cons_succ]
          refine wpAnyH_take (i := 8) (v := ?_) (by simp only [List.getElem?_toArray, List.getElem?_cons_succ, List.getElem?_cons_zero]; rfl) (by kernel_rfl) (by kernel_rfl) (by kernel_rfl) (by intro _ _ _ h; exact h) (Or.inl ⟨by rfl, ?_⟩) hHeld ?_
          rotate_left 1
          · intro wq hSw
            try dsimp only at hSw
            go_simp
            try (with_reducible rfl)
          try simp only [Act.put, List.setIfInBounds_toArray, List.set_cons_zero, List.set_cons_succ]
          refine wpAnyH_take (i := 9) (v := ?_) (by simp only [List.getElem?_toArray, List.getElem?_cons_succ, List.getElem?_cons_zero]; rfl) (by kernel_rfl) (by kernel_rfl) (by kernel_rfl) (by intro _ _ _ h; exact h) (Or.inl ⟨by rfl, ?_⟩) hHeld ?_
          rotate_left 1
          · intro wq hSw
            try dsimp only at hSw
            go_simp
            try (with_reducible rfl)
          try simp only [Act.put, List.setIfInBounds_toArray, List.set_cons_zero, List.set_cons_succ]
          refine wpAnyH_take (i := 10) (v := ?_) (by simp only [List.getElem?_toArray, List.getElem?_cons_succ, List.getElem?_cons_zero]; rfl) (by kernel_rfl) (by kernel_rfl) (by kernel_rfl) (by intro _ _ _ h; exact h) (Or.inl ⟨by rfl, ?_⟩) hHeld ?_
          rotate_left 1
          · intro wq hSw
            try dsimp only at hSw
            go_simp
            try (with_reducible rfl)
          try simp only [Act.put, List.setIfInBounds_toArray, List.set_cons_zero, List.set_cons_succ]
          refine wpAnyH_take (i := 11) (v := ?_) (by simp only [List.getElem?_toArray, List.getElem?_cons_succ, List.getElem?_cons_zero]; rfl) (by kernel_rfl) (by kernel_rfl) (by kernel_rfl) (by intro _ _ _ h; exact h) (Or.inl ⟨by rfl, ?_⟩) hHeld ?_
          rotate_left 1
          · intro wq hSw
            try dsimp only at hSw
            go_simp
            try (with_reducible rfl)
          try simp only [Act.put, List.setIfInBounds_toArray, List.set_cons_zero, List.set_cons_succ]
          refine wpAnyH_done (by kernel_rfl) ?_ _
          have bq := bb3.trans ((bd.trans (b4.mono bd.size)).mono (Nat.le_of_lt h3.lt))
          clear hm4 hHeld
          go_wp2_with fail
          refine (dfinish_any w4 h5 hsm).mono ?_
          rintro e w6 ⟨rfl, h6, b6⟩
          go_wp2
          go_ret
          obtain ⟨e1, e2⟩ := e0.out
          obtain ⟨e3, e4, e5⟩ := e9.out
          rw [e1, e2, e3, e4, e5]
          exact ⟨rfl, h6, bq.trans b6⟩
        by_cases hk4 : kd = 4
        · subst hk4
          have e0 : Hid (Zz = chgZs zs N clH clE ∧ Er = chgEr zs N clE) := by
            obtain ⟨h1, h2, h3, h4, h5⟩ := hall.out
            refine ⟨h4.trans ?_, h5.trans ?_⟩ <;> simp [ruZs, ruEr, goF, hc, hu, cmdZs, cmdEr]
          refine wp_region_held_drew (S := fun w' => Below w3.heap.size w3 w') (by kernel_rfl) (Below.refl _ _).drew (fun hHeld => ?_)
          try dsimp only at hHeld
          have bd : Below w3.heap.size w3 w3.drew := (Below.refl w3.heap.size w3).drew
          have h4 := h3.under bd
          generalize w3.drew = wd at *
          try simp only [Act.put, List.setIfInBounds_toArray, List.set_cons_zero, List.set_cons_succ]
          refine wpAnyH_take (i := 1) (v := ?_) (by simp only [List.getElem?_toArray, List.getElem?_cons_succ, List.getElem?_cons_zero]; rfl) (by kernel_rfl) (by kernel_rfl) (by kernel_rfl) (by intro _ _ _ h; exact h) (Or.inl ⟨by rfl, ?_⟩) hHeld ?_
          rotate_left 1
          · intro wq hSw
            try dsimp only at hSw
            go_simp
            try (with_reducible rfl)
          try simp only [Act.put, List.setIfInBounds_toArray, List.set_cons_zero, List.set_cons_succ]
          refine wpAnyH_take (i := 2) (v := ?_) (by simp only [List.getElem?_toArray, List.getElem?_cons_succ, List.getElem?_cons_zero]; rfl) (by kernel_rfl) (by kernel_rfl) (by kernel_rfl) (by intro _ _ _ h; exact h) (Or.inl ⟨by rfl, ?_⟩) hHeld ?_
          rotate_left 1
          · intro wq hSw
            try dsimp only at hSw
            go_simp
            try (with_reducible rfl)
          try simp only [Act.put, List.setIfInBounds_toArray, List.set_cons_zero, List.set_cons_succ]
          refine wpAnyH_take (i := 3) (v := ?_) (by simp only [List.getElem?_toArray, List.getElem?_cons_succ, List.getElem?_cons_zero]; rfl) (by kernel_rfl) (by kernel_rfl) (by kernel_rfl) (by intro _ _ _ h; exact h) (Or.inl ⟨by rfl, ?_⟩) hHeld ?_
          rotate_left 1
          · intro wq hSw
            try dsimp only at hSw
            go_simp
            try (with_reducible rfl)
          try simp only [Act.put, List.setIfInBounds_toArray, List.set_cons_zero, List.set_cons_succ]
          refine wpAnyH_take (i := 4) (v := ?_) (by simp only [List.getElem?_toArray, List.getElem?_cons_succ, List.getElem?_cons_zero]; rfl) (by kernel_rfl) (by kernel_rfl) (by kernel_rfl) (by intro _ _ _ h; exact h) (Or.inl ⟨by rfl, ?_⟩) hHeld ?_
          rotate_left 1
          · intro wq hSw
            try dsimp only at hSw
            go_simp
            try (with_reducible rfl)
          try simp only [Act.put, List.setIfInBounds_toArray, List.set_cons_zero, List.set_cons_succ]
          refine wpAnyH_take (i := 5) (v := ?_) (by simp only [List.getElem?_toArray, List.getElem?_cons_succ, List.getElem?_cons_zero]; rfl) (by kernel_rfl) (by kernel_rfl) (by kernel_rfl) (by intro _ _ _ h; exact h) (Or.inl ⟨by rfl, ?_⟩) hHeld ?_
          rotate_left 1
          · intro wq hSw
            try dsimp only at hSw
            obtain ⟨x0, x1, x2, x3, x4, x5, x6, x7, _⟩ := (h3.blk.under hSw).eight
            go_simp
            try (with_reducible rfl)
          try simp only [Act.put, List.setIfInBounds_toArray, List.set_cons_zero, List.set_cons_succ]
          refine wpAnyH_ready (rs := [0]) (by kernel_rfl) (by simp) ?_
          refine AllReadyH.cons (by simp only [List.getElem?_toArray, List.getElem?_cons_zero]; rfl) (fun K hK => ?_) AllReadyH.nil
          have hC := dcommands_any wd
          go_simp
          refine hC.mono ?_
          clear hC
          rintro e w4 ⟨rfl, hw4⟩
          have b4 : Below wd.heap.size wd w4 := by rw [hw4]; exact (Below.refl _ _).alloc (Nat.le_refl _) _
          have hm4 : w4.heap[wd.heap.size]? = some (.map cmdES 5) := by rw [hw4]; exact (MapKept.heap_alloc wd _).1
          clear hw4
          go_wp2_with fail
          refine hK.out _ _ (bd.trans (b4.mono bd.size)) (fun _ => wpAnyH_stronger (S' := fun w' => Below w4.heap.size w4 w') (fun w' h => Below.trans (bd.trans (b4.mono bd.size)) (h.mono (Nat.le_trans bd.size b4.size))) _ _ _ _ ?_)
          clear hK K hHeld
          have hHeld := Below.refl w4.heap.size w4
          have h5 := h4.under b4
          try simp only [Act.put, List.setIfInBounds_toArray, List.set_cons_zero, List.set_cons_succ]
          refine wpAnyH_take (i := 6) (v := ?_) (by simp only [List.getElem?_toArray, List.getElem?_cons_succ, List.getElem?_cons_zero]; rfl) (by kernel_rfl) (by kernel_rfl) (by kernel_rfl) (by intro _ _ _ h; exact h) (Or.inl ⟨by rfl, ?_⟩) hHeld ?_
          rotate_left 1
          · intro wq hSw
            try dsimp only at hSw
            have hmq := (hSw.block _ (Array.getElem?_eq_some_iff.1 hm4).1).trans hm4
            have hlk := run_lookm wq _ cmdES 5 4 hmq 3 (.func (.func 44) #[] #[]) rfl
            go_simp
            try (with_reducible rfl)
          try simp only [Act.put, List.setIfInBounds_toArray, List.set_cons_zero, List.set_cons_succ]
          refine wpAnyH_take (i := 7) (v := ?_) (by simp only [List.getElem?_toArray, List.getElem?_cons_succ, List.getElem?_cons_zero]; rfl) (by kernel_rfl) (by kernel_rfl) (by kernel_rfl) (by intro _ _ _ h; exact h) (Or.inl ⟨by rfl, ?_⟩) hHeld ?_
          rotate_left 1
          · intro wq hSw
            try dsimp only at hSw
            go_simp
            try (with_reducible rfl)
          try simp only [Act.put, List.setIfInBounds_toArray, List.set_cons_zero, List.set_cons_succ]
          refine wpAnyH_take (i := 8) (v := ?_) (by simp only [List.getElem?_toArray, List.getElem?_cons_succ, List.getElem?_cons_zero]; rfl) (by kernel_rfl) (by kernel_rfl) (by kernel_rfl) (by intro _ _ _ h; exact h) (Or.inl ⟨by rfl, ?_⟩) hHeld ?_
          rotate_left 1
          · intro wq hSw
            try dsimp only at hSw
            go_simp
            try (with_reducible rfl)
          try simp only [Act.put, List.setIfInBounds_toArray, List.set_cons_zero, List.set_cons_succ]
          refine wpAnyH_take (i := 9) (v := ?_) (by simp only [List.getElem?_toArray, List.getElem?_cons_succ, List.getElem?_cons_zero]; rfl) (by kernel_rfl) (by kernel_rfl) (by kernel_rfl) (by intro _ _ _ h; exact h) (Or.inl ⟨by rfl, ?_⟩) hHeld ?_
          rotate_left 1
          · intro wq hSw
            try dsimp only at hSw
            go_simp
            try (with_reducible rfl)
          try simp only [Act.put, List.setIfInBounds_toArray, List.set_cons_zero, List.set_cons_succ]
          refine wpAnyH_take (i := 10) (v := ?_) (by simp only [List.getElem?_toArray, List.getElem?_cons_succ, List.getElem?_cons_zero]; rfl) (by kernel_rfl) (by kernel_rfl) (by kernel_rfl) (by intro _ _ _ h; exact h) (Or.inl ⟨by rfl, ?_⟩) hHeld ?_
          rotate_left 1
          · intro wq hSw
            try dsimp only at hSw
            go_simp
            try (with_reducible rfl)
          try simp only [Act.put, List.setIfInBounds_toArray, List.set_cons_zero, List.set_cons_succ]
          refine wpAnyH_take (i := 11) (v := ?_) (by simp only [List.getElem?_toArray, List.getElem?_cons_succ, List.getElem?_cons_zero]; rfl) (by kernel_rfl) (by kernel_rfl) (by kernel_rfl) (by intro _ _ _ h; exact h) (Or.inl ⟨by rfl, ?_⟩) hHeld ?_
          rotate_left 1
          · intro wq hSw
            try dsimp only at hSw
            go_simp
            try (with_reducible rfl)
          try simp only [Act.put, List.setIfInBounds_toArray, List.set_cons_zero, List.set_cons_succ]
          refine wpAnyH_done (by kernel_rfl) ?_ _
          have bq := bb3.trans ((bd.trans (b4.mono bd.size)).mono (Nat.le_of_lt h3.lt))
          clear hm4 hHeld
          go_wp2_with fail
          refine (dclose_any w4 h5 hsm).mono ?_
          rintro e w6 ⟨rfl, h6, b6⟩
          go_wp2
          go_ret
          obtain ⟨e1, e2⟩ := e0.out
          obtain ⟨e3, e4, e5⟩ := e9.out
          rw [e1, e2, e3, e4, e5]
          exact ⟨rfl, h6, bq.trans b6⟩
        by_cases hk5 : kd = 5
        · subst hk5
          have e0 : Hid (Zz = zs.map fsZ ∧ Er = 0) := by
            obtain ⟨h1, h2, h3, h4, h5⟩ := hall.out
            refine ⟨h4.trans ?_, h5.trans ?_⟩ <;> simp [ruZs, ruEr, goF, hc, hu, cmdZs, cmdEr]
          refine wp_region_held_drew (S := fun w' => Below w3.heap.size w3 w') (by kernel_rfl) (Below.refl _ _).drew (fun hHeld => ?_)
          try dsimp only at hHeld
          have bd : Below w3.heap.size w3 w3.drew := (Below.refl w3.heap.size w3).drew
          have h4 := h3.under bd
          generalize w3.drew = wd at *
          try simp only [Act.put, List.setIfInBounds_toArray, List.set_cons_zero, List.set_cons_succ]
          refine wpAnyH_take (i := 1) (v := ?_) (by simp only [List.getElem?_toArray, List.getElem?_cons_succ, List.getElem?_cons_zero]; rfl) (by kernel_rfl) (by kernel_rfl) (by kernel_rfl) (by intro _ _ _ h; exact h) (Or.inl ⟨by rfl, ?_⟩) hHeld ?_
          rotate_left 1
          · intro wq hSw
            try dsimp only at hSw
            go_simp
            try (with_reducible rfl)
          try simp only [Act.put, List.setIfInBounds_toArray, List.set_cons_zero, List.set_cons_succ]
          refine wpAnyH_take (i := 2) (v := ?_) (by simp only [List.getElem?_toArray, List.getElem?_cons_succ, List.getElem?_cons_zero]; rfl) (by kernel_rfl) (by kernel_rfl) (by kernel_rfl) (by intro _ _ _ h; exact h) (Or.inl ⟨by rfl, ?_⟩) hHeld ?_
          rotate_left 1
          · intro wq hSw
            try dsimp only at hSw
            go_simp
            try (with_reducible rfl)
          try simp only [Act.put, List.setIfInBounds_toArray, List.set_cons_zero, List.set_cons_succ]
          refine wpAnyH_take (i := 3) (v := ?_) (by simp only [List.getElem?_toArray, List.getElem?_cons_succ, List.getElem?_cons_zero]; rfl) (by kernel_rfl) (by kernel_rfl) (by kernel_rfl) (by intro _ _ _ h; exact h) (Or.inl ⟨by rfl, ?_⟩) hHeld ?_
          rotate_left 1
          · intro wq hSw
            try dsimp only at hSw
            go_simp
            try (with_reducible rfl)
          try simp only [Act.put, List.setIfInBounds_toArray, List.set_cons_zero, List.set_cons_succ]
          refine wpAnyH_take (i := 4) (v := ?_) (by simp only [List.getElem?_toArray, List.getElem?_cons_succ, List.getElem?_cons_zero]; rfl) (by kernel_rfl) (by kernel_rfl) (by kernel_rfl) (by intro _ _ _ h; exact h) (Or.inl ⟨by rfl, ?_⟩) hHeld ?_
          rotate_left 1
          · intro wq hSw
            try dsimp only at hSw
            go_simp
            try (with_reducible rfl)
          try simp only [Act.put, List.setIfInBounds_toArray, List.set_cons_zero, List.set_cons_succ]
          refine wpAnyH_take (i := 5) (v := ?_) (by simp only [List.getElem?_toArray, List.getElem?_cons_succ, List.getElem?_cons_zero]; rfl) (by kernel_rfl) (by kernel_rfl) (by kernel_rfl) (by intro _ _ _ h; exact h) (Or.inl ⟨by rfl, ?_⟩) hHeld ?_
          rotate_left 1
          · intro wq hSw
            try dsimp only at hSw
            obtain ⟨x0, x1, x2, x3, x4, x5, x6, x7, _⟩ := (h3.blk.under hSw).eight
            go_simp
            try (with_reducible rfl)
          try simp only [Act.put, List.setIfInBounds_toArray, List.set_cons_zero, List.set_cons_succ]
          refine wpAnyH_ready (rs := [0]) (by kernel_rfl) (by simp) ?_
          refine AllReadyH.cons (by simp only [List.getElem?_toArray, List.getElem?_cons_zero]; rfl) (fun K hK => ?_) AllReadyH.nil
          have hC := dcommands_any wd
          go_simp
          refine hC.mono ?_
          clear hC
          rintro e w4 ⟨rfl, hw4⟩
          have b4 : Below wd.heap.size wd w4 := by rw [hw4]; exact (Below.refl _ _).alloc (Nat.le_refl _) _
          have hm4 : w4.heap[wd.heap.size]? = some (.map cmdES 5) := by rw [hw4]; exact (MapKept.heap_alloc wd _).1
          clear hw4
          go_wp2_with fail
          refine hK.out _ _ (bd.trans (b4.mono bd.size)) (fun _ => wpAnyH_stronger (S' := fun w' => Below w4.heap.size w4 w') (fun w' h => Below.trans (bd.trans (b4.mono bd.size)) (h.mono (Nat.le_trans bd.size b4.size))) _ _ _ _ ?_)
          clear hK K hHeld
          have hHeld := Below.refl w4.heap.size w4
          have h5 := h4.under b4
          try simp only [Act.put, List.setIfInBounds_toArray, List.set_cons_zero, List.set_cons_succ]
          refine wpAnyH_take (i := 6) (v := ?_) (by simp only [List.getElem?_toArray, List.getElem?_cons_succ, List.getElem?_cons_zero]; rfl) (by kernel_rfl) (by kernel_rfl) (by kernel_rfl) (by intro _ _ _ h; exact h) (Or.inl ⟨by rfl, ?_⟩) hHeld ?_
          rotate_left 1
          · intro wq hSw
            try dsimp only at hSw
            have hmq := (hSw.block _ (Array.getElem?_eq_some_iff.1 hm4).1).trans hm4
            have hlk := run_lookm wq _ cmdES 5 5 hmq 4 (.func (.func 45) #[] #[]) rfl
            go_simp
            try (with_reducible rfl)
          try simp only [Act.put, List.setIfInBounds_toArray, List.set_cons_zero, List.set_cons_succ]
          refine wpAnyH_take (i := 7) (v := ?_) (by simp only [List.getElem?_toArray, List.getElem?_cons_succ, List.getElem?_cons_zero]; rfl) (by kernel_rfl) (by kernel_rfl) (by kernel_rfl) (by intro _ _ _ h; exact h) (Or.inl ⟨by rfl, ?_⟩) hHeld ?_
          rotate_left 1
          · intro wq hSw
            try dsimp only at hSw
            go_simp
            try (with_reducible rfl)
          try simp only [Act.put, List.setIfInBounds_toArray, List.set_cons_zero, List.set_cons_succ]
          refine wpAnyH_take (i := 8) (v := ?_) (by simp only [List.getElem?_toArray, List.getElem?_cons_succ, List.getElem?_cons_zero]; rfl) (by kernel_rfl) (by kernel_rfl) (by kernel_rfl) (by intro _ _ _ h; exact h) (Or.inl ⟨by rfl, ?_⟩) hHeld ?_
          rotate_left 1
          · intro wq hSw
            try dsimp only at hSw
            go_simp
            try (with_reducible rfl)
          try simp only [Act.put, List.setIfInBounds_toArray, List.set_cons_zero, List.set_cons_succ]
          refine wpAnyH_take (i := 9) (v := ?_) (by simp only [List.getElem?_toArray, List.getElem?_cons_succ, List.getElem?_cons_zero]; rfl) (by kernel_rfl) (by kernel_rfl) (by kernel_rfl) (by intro _ _ _ h; exact h) (Or.inl ⟨by rfl, ?_⟩) hHeld ?_
          rotate_left 1
          · intro wq hSw
            try dsimp only at hSw
            go_simp
            try (with_reducible rfl)
          try simp only [Act.put, List.setIfInBounds_toArray, List.set_cons_zero, List.set_cons_succ]
          refine wpAnyH_take (i := 10) (v := ?_) (by simp only [List.getElem?_toArray, List.getElem?_cons_succ, List.getElem?_cons_zero]; rfl) (by kernel_rfl) (by kernel_rfl) (by kernel_rfl) (by intro _ _ _ h; exact h) (Or.inl ⟨by rfl, ?_⟩) hHeld ?_
          rotate_left 1
          · intro wq hSw
            try dsimp only at hSw
            go_simp
            try (with_reducible rfl)
          try simp only [Act.put, List.setIfInBounds_toArray, List.set_cons_zero, List.set_cons_succ]
          refine wpAnyH_take (i := 11) (v := ?_) (by simp only [List.getElem?_toArray, List.getElem?_cons_succ, List.getElem?_cons_zero]; rfl) (by kernel_rfl) (by kernel_rfl) (by kernel_rfl) (by intro _ _ _ h; exact h) (Or.inl ⟨by rfl, ?_⟩) hHeld ?_
          rotate_left 1
          · intro wq hSw
            try dsimp only at hSw
            go_simp
            try (with_reducible rfl)
          try simp only [Act.put, List.setIfInBounds_toArray, List.set_cons_zero, List.set_cons_succ]
          refine wpAnyH_done (by kernel_rfl) ?_ _
          have bq := bb3.trans ((bd.trans (b4.mono bd.size)).mono (Nat.le_of_lt h3.lt))
          clear hm4 hHeld
          go_wp2_with fail
          refine (dflush_any w4 h5 hsm).mono ?_
          rintro e w6 ⟨rfl, h6, b6⟩
          go_wp2
          go_ret
          obtain ⟨e1, e2⟩ := e0.out
          obtain ⟨e3, e4, e5⟩ := e9.out
          rw [e1, e2, e3, e4, e5]
          exact ⟨rfl, h6, bq.trans b6⟩
        have e0 : Hid (Zz = zs ∧ Er = 1) := by
          obtain ⟨h1, h2, h3, h4, h5⟩ := hall.out
          refine ⟨h4.trans ?_, h5.trans ?_⟩ <;> simp [ruZs, ruEr, goF, hc, hu, cmdZs, cmdEr, hk1, hk2, hk3, hk4, hk5]
        have hno := find_no kd (by simpa using hk1) (by simpa using hk2) (by simpa using hk3) (by simpa using hk4) (by simpa using hk5)
        refine wp_region_held_drew (S := fun w' => Below w3.heap.size w3 w') (by kernel_rfl) (Below.refl _ _).drew (fun hHeld => ?_)
        try dsimp only at hHeld
        have bd : Below w3.heap.size w3 w3.drew := (Below.refl w3.heap.size w3).drew
        have h4 := h3.under bd
        generalize w3.drew = wd at *
        try simp only [Act.put, List.setIfInBounds_toArray, List.set_cons_zero, List.set_cons_succ]
        refine wpAnyH_take (i := 1) (v := ?_) (by simp only [List.getElem?_toArray, List.getElem?_cons_succ, List.getElem?_cons_zero]; rfl) (by kernel_rfl) (by kernel_rfl) (by kernel_rfl) (by intro _ _ _ h; exact h) (Or.inl ⟨by rfl, ?_⟩) hHeld ?_
        rotate_left 1
        · intro wq hSw
          try dsimp only at hSw
          go_simp
          try (with_reducible rfl)
        try simp only [Act.put, List.setIfInBounds_toArray, List.set_cons_zero, List.set_cons_succ]
        refine wpAnyH_take (i := 2) (v := ?_) (by simp only [List.getElem?_toArray, List.getElem?_cons_succ, List.getElem?_cons_zero]; rfl) (by kernel_rfl) (by kernel_rfl) (by kernel_rfl) (by intro _ _ _ h; exact h) (Or.inl ⟨by rfl, ?_⟩) hHeld ?_
        rotate_left 1
        · intro wq hSw
          try dsimp only at hSw
          go_simp
          try (with_reducible rfl)
        try simp only [Act.put, List.setIfInBounds_toArray, List.set_cons_zero, List.set_cons_succ]
        refine wpAnyH_take (i := 3) (v := ?_) (by simp only [List.getElem?_toArray, List.getElem?_cons_succ, List.getElem?_cons_zero]; rfl) (by kernel_rfl) (by kernel_rfl) (by kernel_rfl) (by intro _ _ _ h; exact h) (Or.inl ⟨by rfl, ?_⟩) hHeld ?_
        rotate_left 1
        · intro wq hSw
          try dsimp only at hSw
          go_simp
          try (with_reducible rfl)
        try simp only [Act.put, List.setIfInBounds_toArray, List.set_cons_zero, List.set_cons_succ]
        refine wpAnyH_take (i := 4) (v := ?_) (by simp only [List.getElem?_toArray, List.getElem?_cons_succ, List.getElem?_cons_zero]; rfl) (by kernel_rfl) (by kernel_rfl) (by kernel_rfl) (by intro _ _ _ h; exact h) (Or.inl ⟨by rfl, ?_⟩) hHeld ?_
        rotate_left 1
        · intro wq hSw
          try dsimp only at hSw
          go_simp
          try (with_reducible rfl)
        try simp only [Act.put, List.setIfInBounds_toArray, List.set_cons_zero, List.set_cons_succ]
        refine wpAnyH_take (i := 5) (v := ?_) (by simp only [List.getElem?_toArray, List.getElem?_cons_succ, List.getElem?_cons_zero]; rfl) (by kernel_rfl) (by kernel_rfl) (by kernel_rfl) (by intro _ _ _ h; exact h) (Or.inl ⟨by rfl, ?_⟩) hHeld ?_
        rotate_left 1
        · intro wq hSw
          try dsimp only at hSw
          obtain ⟨x0, x1, x2, x3, x4, x5, x6, x7, _⟩ := (h3.blk.under hSw).eight
          go_simp
          try (with_reducible rfl)
        try simp only [Act.put, List.setIfInBounds_toArray, List.set_cons_zero, List.set_cons_succ]
        refine wpAnyH_ready (rs := [0]) (by kernel_rfl) (by simp) ?_
        refine AllReadyH.cons (by simp only [List.getElem?_toArray, List.getElem?_cons_zero]; rfl) (fun K hK => ?_) AllReadyH.nil
        have hC := dcommands_any wd
        go_simp
        refine hC.mono ?_
        clear hC
        rintro e w4 ⟨rfl, hw4⟩
        have b4 : Below wd.heap.size wd w4 := by rw [hw4]; exact (Below.refl _ _).alloc (Nat.le_refl _) _
        have hm4 : w4.heap[wd.heap.size]? = some (.map cmdES 5) := by rw [hw4]; exact (MapKept.heap_alloc wd _).1
        clear hw4
        go_wp2_with fail
        refine hK.out _ _ (bd.trans (b4.mono bd.size)) (fun _ => wpAnyH_stronger (S' := fun w' => Below w4.heap.size w4 w') (fun w' h => Below.trans (bd.trans (b4.mono bd.size)) (h.mono (Nat.le_trans bd.size b4.size))) _ _ _ _ ?_)
        clear hK K hHeld
        have hHeld := Below.refl w4.heap.size w4
        have h5 := h4.under b4
        try simp only [Act.put, List.setIfInBounds_toArray, List.set_cons_zero, List.set_cons_succ]
        refine wpAnyH_take (i := 6) (v := ?_) (by simp only [List.getElem?_toArray, List.getElem?_cons_succ, List.getElem?_cons_zero]; rfl) (by kernel_rfl) (by kernel_rfl) (by kernel_rfl) (by intro _ _ _ h; exact h) (Or.inl ⟨by rfl, ?_⟩) hHeld ?_
        rotate_left 1
        · intro wq hSw
          try dsimp only at hSw
          have hmq := (hSw.block _ (Array.getElem?_eq_some_iff.1 hm4).1).trans hm4
          have hlk := run_lookm_no wq _ cmdES 5 kd hmq hno
          go_simp
          try (with_reducible rfl)
        try simp only [Act.put, List.setIfInBounds_toArray, List.set_cons_zero, List.set_cons_succ]
        refine wpAnyH_take (i := 7) (v := ?_) (by simp only [List.getElem?_toArray, List.getElem?_cons_succ, List.getElem?_cons_zero]; rfl) (by kernel_rfl) (by kernel_rfl) (by kernel_rfl) (by intro _ _ _ h; exact h) (Or.inl ⟨by rfl, ?_⟩) hHeld ?_
        rotate_left 1
        · intro wq hSw
          try dsimp only at hSw
          go_simp
          try (with_reducible rfl)
        try simp only [Act.put, List.setIfInBounds_toArray, List.set_cons_zero, List.set_cons_succ]
        refine wpAnyH_take (i := 8) (v := ?_) (by simp only [List.getElem?_toArray, List.getElem?_cons_succ, List.getElem?_cons_zero]; rfl) (by kernel_rfl) (by kernel_rfl) (by kernel_rfl) (by intro _ _ _ h; exact h) (Or.inl ⟨by rfl, ?_⟩) hHeld ?_
        rotate_left 1
        · intro wq hSw
          try dsimp only at hSw
          go_simp
          try (with_reducible rfl)
        try simp only [Act.put, List.setIfInBounds_toArray, List.set_cons_zero, List.set_cons_succ]
        refine wpAnyH_take (i := 9) (v := ?_) (by simp only [List.getElem?_toArray, List.getElem?_cons_succ, List.getElem?_cons_zero]; rfl) (by kernel_rfl) (by kernel_rfl) (by kernel_rfl) (by intro _ _ _ h; exact h) (Or.inl ⟨by rfl, ?_⟩) hHeld ?_
        rotate_left 1
        · intro wq hSw
          try dsimp only at hSw
          go_simp
          try (with_reducible rfl)
        try simp only [Act.put, List.setIfInBounds_toArray, List.set_cons_zero, List.set_cons_succ]
        refine wpAnyH_take (i := 10) (v := ?_) (by simp only [List.getElem?_toArray, List.getElem?_cons_succ, List.getElem?_cons_zero]; rfl) (by kernel_rfl) (by kernel_rfl) (by kernel_rfl) (by intro _ _ _ h; exact h) (Or.inl ⟨by rfl, ?_⟩) hHeld ?_
        rotate_left 1
        · intro wq hSw
          try dsimp only at hSw
          go_simp
          try (with_reducible rfl)
        try simp only [Act.put, List.setIfInBounds_toArray, List.set_cons_zero, List.set_cons_succ]
        refine wpAnyH_take (i := 11) (v := ?_) (by simp only [List.getElem?_toArray, List.getElem?_cons_succ, List.getElem?_cons_zero]; rfl) (by kernel_rfl) (by kernel_rfl) (by kernel_rfl) (by intro _ _ _ h; exact h) (Or.inl ⟨by rfl, ?_⟩) hHeld ?_
        rotate_left 1
        · intro wq hSw
          try dsimp only at hSw
          go_simp
          try (with_reducible rfl)
        try simp only [Act.put, List.setIfInBounds_toArray, List.set_cons_zero, List.set_cons_succ]
        refine wpAnyH_done (by kernel_rfl) ?_ _
        have bq := bb3.trans ((bd.trans (b4.mono bd.size)).mono (Nat.le_of_lt h3.lt))
        clear hm4 hHeld hno
        go_wp2
        go_ret
        obtain ⟨e1, e2⟩ := e0.out
        obtain ⟨e3, e4, e5⟩ := e9.out
        rw [e1, e2, e3, e4, e5]
        exact h5.post 1 bq


end Go.Proofs.Ytnjekhnheihooaa
