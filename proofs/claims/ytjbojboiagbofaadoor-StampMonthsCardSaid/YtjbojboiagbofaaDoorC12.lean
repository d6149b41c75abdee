/- The library's Itoa below 10000; two; tables of strings. -/
import Derived.Test.YtjbojboiagbofaaDoorC11
import Derived.Test.YtjbojboiagbofaaDoorShelf
set_option linter.unusedSimpArgs false
set_option linter.unusedVariables false
namespace Go.Proofs.YtjbojboiagbofaaDoor
open Go.RowKit Go.Shelf

theorem digs_small {u : Nat} (h : u < 10) : Lib.decDigits u = [UInt8.ofNat (48 + u)] := by rw [Lib.decDigits, dif_pos h]
theorem digs_big {u : Nat} (h : ¬ u < 10) : Lib.decDigits u = Lib.decDigits (u / 10) ++ [UInt8.ofNat (48 + u % 10)] := by rw [Lib.decDigits, dif_neg h]
/-- A digit. -/
def dgt (n : Nat) : UInt8 := UInt8.ofNat (48 + n % 10)
def dg2 (n : Nat) : List UInt8 := [dgt (n / 10), dgt n]
def dg4 (n : Nat) : List UInt8 := [dgt (n / 1000), dgt (n / 100), dgt (n / 10), dgt n]
theorem digs_two {n : Nat} (h : 10 ≤ n) (h2 : n < 100) : Lib.decDigits n = dg2 n := by
  rw [digs_big (by omega), digs_small (by omega)]
  unfold dg2 dgt
  rw [Nat.mod_eq_of_lt (show n / 10 < 10 by omega)]
  rfl
theorem digs_four {n : Nat} (h : 1000 ≤ n) (h2 : n < 10000) : Lib.decDigits n = dg4 n := by
  rw [digs_big (by omega), digs_big (by omega), digs_big (by omega), digs_small (by omega)]
  unfold dg4 dgt
  rw [show n / 10 / 10 = n / 100 by omega, show n / 100 / 10 = n / 1000 by omega, Nat.mod_eq_of_lt (show n / 1000 < 10 by omega)]
  rfl
/-- A number below 100 as two letters, the one ahead of a single digit given. -/
def dgp (p : UInt8) (n : Nat) : List UInt8 := if n < 10 then [p, dgt n] else dg2 n
theorem dgp_len (p : UInt8) (n : Nat) : (dgp p n).length = 2 := by unfold dgp; split <;> rfl
theorem dgp_zero {n : Nat} (h : n < 100) : dgp 48 n = dg2 n := by
  unfold dgp
  split
  · rename_i q
    unfold dg2
    rw [Nat.div_eq_of_lt q]
    rfl
  · rfl
theorem arr_size (l : List UInt8) : (⟨l.toArray⟩ : ByteArray).size = l.length := rfl
theorem arr_list (l : List UInt8) : (⟨l.toArray⟩ : ByteArray).data.toList = l := rfl
theorem str_app (a b : List UInt8) : (⟨a.toArray⟩ : ByteArray) ++ ⟨b.toArray⟩ = ⟨(a ++ b).toArray⟩ := by
  apply ByteArray.ext
  apply Array.ext'
  rw [ByteArray.data_append, Array.toList_append]
theorem itoa_small (n : Nat) (hn : n < 100) (w : World) : Calls Tryd.prog 24 #[.int .i64 n] w fun e w' => e = .returned (.string ⟨(Lib.decDigits n).toArray⟩) ∧ w' = w := Tryd.strconv_Itoa_small n hn w
set_option maxHeartbeats 1000000 in
theorem two_any (n : Nat) (hn : n < 100) (p : UInt8) (w : World) :
    Calls Tryd.prog 23 #[.int .i64 n, .string ⟨#[p]⟩] w fun e w' => e = .returned (.string ⟨(dgp p n).toArray⟩) ∧ w' = w := by
  have c := fun w => itoa_small n hn w
  by_cases h : n < 10
  · have hd : dgp p n = [p, dgt n] := by unfold dgp; rw [if_pos h]
    have h1 : (n : Int) < 10 := by omega
    rw [digs_small h] at c
    rw [hd]
    have hq : dgt n = UInt8.ofNat (48 + n) := by unfold dgt; rw [Nat.mod_eq_of_lt h]
    rw [hq]
    generalize UInt8.ofNat (48 + n) = q at c ⊢
    clear h hn hd hq
    go_enter Tryd.func23, Tryd.ntmps23
    go_wp2_with fail
    refine (c _).mono ?_; rintro e w1 ⟨rfl, hw⟩; rw [hw]
    go_wp2_with fail
    go_ret
    exact ⟨rfl, rfl⟩
  · have hd : dgp p n = dg2 n := by unfold dgp; rw [if_neg h]
    have h1 : ¬ (n : Int) < 10 := by omega
    rw [digs_two (by omega) hn] at c
    rw [hd]
    clear h hn hd
    go_enter Tryd.func23, Tryd.ntmps23
    go_wp2_with fail
    refine (c _).mono ?_; rintro e w1 ⟨rfl, hw⟩; rw [hw]
    go_wp2_with fail
    go_ret
    exact ⟨rfl, rfl⟩
/-- What the library's table holds, in w. -/
def Tab (w : World) : Prop := Lib.TabIs Tryd.prog w "internal/strconv.uint64pow10" .u64 Lib.pow10Tab
theorem var_below {name : String} {w w' : World} {x : Array Value} (h : w.var? Tryd.prog name = some x) (hb : Below w.heap.size w w') : w'.var? Tryd.prog name = some x := by
  unfold World.var? at *
  cases hg : Tryd.prog.globalNamed name with
  | none => rw [hg] at h; cases h
  | some g =>
    rw [hg] at h
    simp only [Option.bind_some] at h ⊢
    have hlt : g < w.heap.size := by
      rcases Nat.lt_or_ge g w.heap.size with h' | h'
      · exact h'
      · rw [Array.getElem?_eq_none h'] at h
        cases h
    rw [hb.block g hlt]
    exact h
theorem Tab.below {w w' : World} (h : Tab w) (hb : Below w.heap.size w w') : Tab w' := var_below h hb
theorem below_grow2 (w : World) (k : Nat) (os : Array Obj) : Below w.heap.size w (Sort.grow (w.drewN k) os) :=
  ⟨rfl, rfl, rfl, by show w.heap.size ≤ (w.heap ++ os).size; rw [Array.size_append]; omega, fun j hj => by show (w.heap ++ os)[j]? = w.heap[j]?; exact Array.getElem?_append_left hj⟩
theorem itoa_year (y : Int) (k : Nat) (hy : y = 1999 + k) (hk : k ≤ 200) (w : World) (hT : Tab w) : Calls Tryd.prog 24 #[.int .i64 y] w fun e w' => e = .returned (.string ⟨(dg4 (1999 + k)).toArray⟩) ∧ Below w.heap.size w w' := by
  refine (Tryd.strconv_Itoa y (by omega) (by omega) w hT).mono fun e w' ⟨he, n, os, hw⟩ => ⟨?_, ?_⟩
  · rw [he]
    unfold Lib.itoa
    rw [if_neg (by omega), show y.toNat = 1999 + k by omega, digs_four (by omega) (by omega)]
  · rw [hw]
    exact below_grow2 w n os
/-- The variable holds these strings. -/
def StrIs (w : World) (name : String) (ls : List (List UInt8)) : Prop := w.var? Tryd.prog name = some (ls.map fun l => Value.string ⟨l.toArray⟩).toArray
theorem StrIs.cell {w : World} {name : String} {ls : List (List UInt8)} {g : Nat} (h : StrIs w name ls) (hg : Tryd.prog.globalNamed name = some g) (i : Nat) (hi : i < ls.length) :
    w.cell? ⟨g, i, none⟩ = some (.string ⟨(ls.getD i []).toArray⟩) := by
  have := World.var?_cell hg h i
  simpa [List.getD, hi] using this
def monT : List (List UInt8) := [[74, 97, 110], [70, 101, 98], [77, 97, 114], [65, 112, 114], [77, 97, 121], [74, 117, 110], [74, 117, 108], [65, 117, 103], [83, 101, 112], [79, 99, 116], [78, 111, 118], [68, 101, 99]]
def wdT : List (List UInt8) := [[83, 117, 110], [77, 111, 110], [84, 117, 101], [87, 101, 100], [84, 104, 117], [70, 114, 105], [83, 97, 116]]
def mon (j : Nat) : List UInt8 := monT.getD j []
def wdl (i : Nat) : List UInt8 := wdT.getD i []
def Mons (w : World) : Prop := StrIs w "estafette/stamp.monthNames" monT
def Wds (w : World) : Prop := StrIs w "estafette/stamp.weekdayNames" wdT
theorem Mons.below {w w' : World} (h : Mons w) (hb : Below w.heap.size w w') : Mons w' := var_below h hb
theorem Wds.below {w w' : World} (h : Wds w) (hb : Below w.heap.size w w') : Wds w' := var_below h hb
theorem Mons.at {w : World} (h : Mons w) (j : Nat) (hj : j < 12) : w.cell? ⟨0, j, none⟩ = some (.string ⟨(mon j).toArray⟩) := StrIs.cell h (g := 0) (by kernel_rfl) j hj
theorem Wds.at {w : World} (h : Wds w) (j : Nat) (hj : j < 7) : w.cell? ⟨1, j, none⟩ = some (.string ⟨(wdl j).toArray⟩) := StrIs.cell h (g := 1) (by kernel_rfl) j hj
theorem mon_len (j : Nat) (hj : j < 12) : (mon j).length = 3 := by
  have : ∀ i : Fin 12, (mon i.val).length = 3 := by decide
  exact this ⟨j, hj⟩
theorem wdl_len (j : Nat) (hj : j < 7) : (wdl j).length = 3 := by
  have : ∀ i : Fin 7, (wdl i.val).length = 3 := by decide
  exact this ⟨j, hj⟩
/-- The four tables. -/
structure Tabs (w : World) : Prop where
  days : Days w
  tab : Tab w
  mons : Mons w
  wds : Wds w
theorem Tabs.below {w w' : World} (h : Tabs w) (hb : Below w.heap.size w w') : Tabs w' := ⟨h.days.below hb, h.tab.below hb, h.mons.below hb, h.wds.below hb⟩
end Go.Proofs.YtjbojboiagbofaaDoor
