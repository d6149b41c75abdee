/- Format, Open and a boot on a disk with any fuse, beside other things. -/
import Derived.Test.YtoccnaebckcfmaaW31
set_option linter.unusedSimpArgs false
set_option linter.unusedVariables false
set_option maxRecDepth 8000
namespace Go.Proofs.Ytoccnaebckcfmaa
open Go.RowKit

/-- Behind a Format of a log anew. -/
def ForPost (w0 : World) (b : Nat) (a s n N : Int) (f : Int → Array Value) (k : Int) (Rs : List Res) (e : Ending) (w' : World) : Prop :=
  ∃ F' S', S'.steps ≤ k + 2 ∧ S'.pend.length ≤ 1 ∧ Has w0 w' (DRes b F' S' :: Rs) ∧
    ((e = .returned (.int .i64 0) ∧ LogIs S' a s 0 N f) ∨
     (e = .returned (.int .i64 2) ∧ S'.on = false ∧ ∀ keep, LogIs (S'.booted keep) a s n N f ∨ LogIs (S'.booted keep) a s 0 N f))

theorem has_formatL {w0 w : World} {b : Nat} {F : List Nat} {S : St} {a s n N : Int} {f : Int → Array Value} {Rs : List Res} (h : Has w0 w (DRes b F S :: Rs)) (hS : LogIs S a s n N f) (ha : 0 ≤ a) (hs : 3 ≤ s) (has : a + s ≤ N) (hk : S.steps ≤ 900000000) :
    Calls Try.prog 36 #[.pointer (some ⟨b, 0, none⟩), .int .i64 a, .int .i64 s] w fun e w' => ForPost w0 b a s n N f S.steps Rs e w' := by
  have n1 : S.n ≤ 8192 := by obtain ⟨_, _, _, h, _⟩ := h.dat; exact h.ok.n1
  have hN := hS.dn
  have hbd := writeAll_bd [(a, headA a s 0 0)] S
  rw [hS.calm.pend] at hbd
  simp only [List.length_nil, List.length_singleton] at hbd
  refine (format_any h.dat a s (by omega) (by omega) ⟨hs, ha, by omega⟩ (by omega) (by rw [hS.calm.pend]; simp)).mono ?_
  rintro e w' ⟨rfl, hp⟩
  obtain ⟨F', hh⟩ := h.disk hp
  rcases format_out ha hs has hS with ⟨z, lg⟩ | ⟨z, off, lg⟩
  · exact ⟨F', _, by omega, by omega, hh, .inl ⟨by rw [z], lg⟩⟩
  · exact ⟨F', _, by omega, by omega, hh, .inr ⟨by rw [z], off, lg⟩⟩

/-- Open of a log without a group in progress, whatever the fuse. -/
theorem has_openL {w0 w : World} {b : Nat} {F : List Nat} {S : St} {a s n N : Int} {f : Int → Array Value} {Rs : List Res} (h : Has w0 w (DRes b F S :: Rs)) (hS : LogIs S a s n N f) (ha : 0 ≤ a) (hs : 3 ≤ s) (has : a + s ≤ N) (hn : 0 ≤ n) (hn1 : n ≤ 1000000) :
    Calls Try.prog 29 #[.pointer (some ⟨b, 0, none⟩), .int .i64 a, .int .i64 s] w fun e w' => ∃ wb, e = .returned (.tuple #[.pointer (some ⟨wb, 0, none⟩), .int .i64 0]) ∧ Has w0 w' (WRes wb b a s n :: DRes b F S :: Rs) :=
  has_open h hS.calm.on ha hs (by rw [hS.dn]; exact has) hn (by omega) hS.head

/-- What boots and fuses leave of the three. -/
theorem LogBusy.boot {S : St} {a s n N : Int} {f : Int → Array Value} {ps : List (Int × Array Value)} (h : LogBusy S a s n N f ps) (keep : List Int) : LogBusy (S.booted keep) a s n N f ps := by
  have hl : ∀ x, (S.booted keep).look x = S.look x := fun x => by
    rcases booted_look S keep x with e | ⟨p, hp, _⟩
    · exact e.trans (h.calm.sureLook x)
    · rw [h.calm.pend] at hp; cases hp
  exact ⟨calm_booted _ _, h.dn, (hl a).trans h.head, h.holds.of_look (fun x _ _ => hl x), fun x hx => by rw [hl x]; exact h.rest x hx⟩
theorem LogOut.boot {S : St} {a s n N : Int} {f : Int → Array Value} {ps : List (Int × Array Value)} (h : LogOut S a s n N f ps) (keep : List Int) : LogOut (S.booted keep) a s n N f ps := by
  rcases h with h | h | h
  · exact .inl (h.boot keep)
  · exact .inr (.inl (h.boot keep))
  · exact .inr (.inr (h.boot keep))
theorem LogOut.fuse {S : St} {a s n N : Int} {f : Int → Array Value} {ps : List (Int × Array Value)} (h : LogOut S a s n N f ps) (m : Int) : LogOut (S.fused m) a s n N f ps := by
  rcases h with h | h | h
  · exact .inl (h.fuse m)
  · exact .inr (.inl (h.fuse m))
  · exact .inr (.inr (h.fuse m))
/-- The group at hand without puts is no group in progress. -/
theorem LogBusy.none {S : St} {a s n N : Int} {f : Int → Array Value} (h : LogBusy S a s n N f []) : LogIs S a s (n + 1) N f := by
  refine ⟨h.calm, h.dn, h.head, fun x hx => ?_⟩
  rcases h.rest x hx with e | ⟨p, hp, _⟩
  · exact e
  · cases hp

end Go.Proofs.Ytoccnaebckcfmaa
