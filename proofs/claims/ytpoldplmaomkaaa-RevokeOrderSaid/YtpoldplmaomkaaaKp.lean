/- Capabilities: the reference's 'Permits' in one word. -/
import Derived.Test.YtpoldplmaomkaaaKo
namespace Go.Proofs.Ytpoldplmaomkaaa
open Go.RowKit

theorem rpermits_any (id tag r v x t u : Int) (sl : Value) (l : List Cv) (w : World) (h : CvsAt w sl l) : Calls Try.prog 48 #[.agg #[.int .i64 id, sl, .int .i64 tag], .agg #[.int .i64 r, .int .i64 v, .int .i64 x, .int .i64 t], .int .i64 u] w fun e w' => e = .returned (.int .i64 (pmE id tag l r v x t u)) ∧ Below w.heap.size w w' := by
  cases h1 : capB id tag l
  · have : pmE id tag l r v x t u = 1 := by unfold pmE pmB; simp [h1]
    rw [this]; exact rpermits_cap id tag r v x t u sl l w h h1
  · cases h2 : asB r v x t
    · have : pmE id tag l r v x t u = 1 := by unfold pmE pmB; simp [h2]
      rw [this]; exact rpermits_ask id tag r v x t u sl l w h h1 h2
    · cases h3 : inr u 0 1000000000
      · have : pmE id tag l r v x t u = 1 := by unfold pmE pmB; simp [h3]
        rw [this]; exact rpermits_used id tag r v x t u sl l w h h1 h2 h3
      · have : pmE id tag l r v x t u = prL r v t u l := by unfold pmE pmB; simp [h1, h2, h3]
        rw [this]; exact rpermits_ok id tag r v x t u sl l w h h1 h2 h3
end Go.Proofs.Ytpoldplmaomkaaa
