/- A region whose order is open: plain facts a slot; in the end the frame is told as it is written. No program is named here. -/
import Derived.Test.YtckcjiojfpaikaaDoorRgf
namespace Go.Proofs.YtckcjiojfpaikaaDoor.Rg
open Go.RowKit
variable {P : Program} {ops : Array Oper} {Q : Exit → Act → World → Prop} {F : Facts} {a0 : Act} {w0 : World} {n : Nat}
theorem step2O {i : Nat} {dst : Option Nat} {op : Op} (h : info ops i = some (dst, op, none)) (hs : Owes P ops Q F a0 w0 i dst op) : Step2 P ops Q (fun d _ w v => F d w v) a0 w0 i :=
  step2N h fun o a w ho hd hg ha D => hs o a w ho hd hg ha D
theorem regionP {id : Nat} (ds : List Nat) (hm : P.follows .mixedOrders = true) (hn : a0.tmps.size = n) (hwf : wfB n ops = true) (hds : dsts ops = ds) (hF : ∀ d w w' v, F d w v → Grow w w' → F d w' v)
    (step : ∀ i, i < ops.size → Step2 P ops Q (fun d _ w v => F d w v) a0 w0 i) (fin : ∀ f w, Grow w0 w → (∀ d, ds.contains d = true → F d w (f d)) → Q .normal (puts f ds a0) w) : (Code.region id ops true).wp P Q a0 w0 :=
  region2 [] ds hm hn hwf rfl hds (fun d _ w w' v h g => hF d w w' v h g) (fun _ _ _ _ _ h _ => h) step fin
/-- The frame that a region leaves, told by its slots. -/
theorem frame_of {a : Act} (h : Agree ops a0 a) (ds : List Nat) (hds : dsts ops = ds) : a = puts (vals a) ds a0 := by
  have e := agree_puts h
  rwa [hds] at e
end Go.Proofs.YtckcjiojfpaikaaDoor.Rg
