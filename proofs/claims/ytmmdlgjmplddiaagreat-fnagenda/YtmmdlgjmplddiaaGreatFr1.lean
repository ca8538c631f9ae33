/-
  OUR OWN TEXT. A drawn region in a round's frame: walked as a plain one (at the wide fence).
-/
import Derived.Test.YtmmdlgjmplddiaaGreatProg
import Derived.RangeFuncFrom
import Derived.RangeFuncCalls
import Derived.OwnWalkIn
import Derived.OrdersHeld
import Derived.Deep.RegionHeld3
namespace Go.Proofs.YtmmdlgjmplddiaaGreat
open Go.RowKit
theorem zhr {l n:Nat}{P:Program}{ops:Array Oper}{Q:Exit→Act→World→Prop} (hq:¬ LetsOut Q) (hd:∀ (i:Nat) (o:Oper),ops[i]?=some o→∀ c,o.op≠.defer c) :
  ∀ (is:List Nat) (a:Act) (w:World),wpOps P ops Q is a w→wpOpsIn (Fence.wide.inRound l) n P ops Q is a w:=by
 intro is
 induction is with
 | nil=>intro a w h;exact h
 | cons i rest ih=>
  intro a w h
  unfold wpOps at h
  unfold wpOpsIn
  cases ho:ops[i]? with
  | none=>
   rw [ho] at h
   exact ih a w h
  | some o=>
   rw [ho] at h
   simp only at h ⊢
   split
   ·rename_i hw
    rw [if_pos hw] at h
    have h:o.wp P a w (wpOps P ops Q rest) Q:=h.resolve_right (fun h'=>hq h'.2)
    refine ⟨fun _ _=>trivial,?_⟩
    rw [Oper.semAt_plain _ _ _ (hd i o ho)]
    unfold Oper.wp at h
    generalize (execOp a.eval o).run P w=r at h ⊢
    cases r with
    | ok x w'=>
     cases x <;> simp only [Oper.upon,Oper.uponIn] at h ⊢ <;> first
      | exact ih _ _ h
      | exact h.elim
      | (refine ⟨fun hx=>(by simp [Fence.wide] at hx),CallsIn.inRound l (callsIn_wide.2 (Calls.mono h ?_))⟩;intro e w'' he;cases e;exact ih _ _ he;exact he;exact he)
      | exact ⟨fun hx=>(by simp [Fence.wide] at hx),fun c cs _=>let ⟨v,w'',r,s⟩:=h c cs;⟨v,w'',ih _ _ r,stepsIn_wide.2 s⟩⟩
    | halt x w'=>cases x <;> simp only [Oper.upon,Oper.uponIn] at h ⊢ <;> exact h
   ·rename_i hw
    rw [if_neg hw] at h
    exact ⟨fun _ _=>trivial,ih _ _ h⟩
theorem zkA {l n:Nat}{P:Program}{id:Nat}{ops:Array Oper}{Q:Exit→Act→World→Prop}{S:World→Prop}{a:Act}{w:World} (hq:¬ LetsOut Q) (hd:∀ (i:Nat) (o:Oper),ops[i]?=some o→∀ c,o.op≠.defer c) (hm:P.follows .mixedOrders=true) (hS:S w.drew)
  (h:S w.drew→wpAnyH P .any ops Q S ops.size (Array.replicate ops.size false) a w.drew):(Code.region id ops true).wpIn (Fence.wide.inRound l) n P Q a w:=
 wpIn_region_draw fun t=>by
  simp only [Region.schedule,hm,Bool.true_or,if_true]
  exact zhr hq hd _ _ _ (wpAny_sound ops.size t _ a _ (wpAny_of_held _ _ _ _ (h hS)))
theorem zkm {l n:Nat}{P:Program}{id:Nat}{ops:Array Oper}{Q:Exit→Act→World→Prop}{S:World→Prop}{a:Act}{w:World} (hq:¬ LetsOut (NoPanic Q)) (hd:∀ (i:Nat) (o:Oper),ops[i]?=some o→∀ c,o.op≠.defer c) (hm:P.follows .mixedOrders=true) (hS:S w.drew)
  (h:S w.drew→wpAnyH P .any ops (NoPanic Q) S ops.size (Array.replicate ops.size false) a w.drew):(Code.region id ops true).wpIn (Fence.wide.inRound l) n P Q a w:=
 wpIn_mono (zkA hq hd hm hS h) (fun _ _ _ h=>NoPanic.imp _ _ _ h)
end Go.Proofs.YtmmdlgjmplddiaaGreat
