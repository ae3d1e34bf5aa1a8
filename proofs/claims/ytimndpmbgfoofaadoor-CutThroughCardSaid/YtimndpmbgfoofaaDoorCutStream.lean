/- cut, plain: of the bytes of frames a beginning tells a beginning of them. -/
import Derived.Test.YtimndpmbgfoofaaDoorStreamPlain
namespace CutPlain
open FramePlain (Fr)
open StreamPlain

theorem all_prefix (masked : Bool) (most : Int) {A R : List Nat} (hA : ∀ y ∈ A, y < 256) (hR : ∀ y ∈ R, y < 256) {ms : List Fr} {k : Nat} (h : all (A ++ R) masked most = (ms, 0, k)) :
    ∃ fs lf rest, all A masked most = (fs, 0, lf) ∧ ms = fs ++ rest := by
  have hp := all_append masked most R hR A.length A (Nat.le_refl _) hA
  rw [h] at hp
  obtain ⟨⟨fs, e, lf⟩, ha⟩ : ∃ r, all A masked most = r := ⟨_, rfl⟩
  rw [ha] at hp ⊢
  simp only at hp
  by_cases he : e = 0
  · subst he
    rw [if_pos rfl] at hp
    injection hp with h1 _
    exact ⟨fs, lf, _, rfl, h1⟩
  · rw [if_neg he] at hp
    injection hp with _ h2
    injection h2 with h2 _
    exact absurd h2.symm he
end CutPlain
