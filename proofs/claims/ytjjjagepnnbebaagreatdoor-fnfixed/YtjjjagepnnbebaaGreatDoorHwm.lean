/-
  OUR OWN TEXT. Steps of a drawn region that is walked by hand, in short.
-/
import Derived.Test.YtjjjagepnnbebaaGreatDoorRows
import Derived.Deep.RegionHeld3
namespace Go.Proofs.YtjjjagepnnbebaaGreatDoor
theorem tk{P:Program}{l:List Oper}{Q:Exit->Act->World->Prop}{I:Region.Mode}{S:World->Prop}(i:Nat){G:Oper}{v:Value}{E:Nat}{listed:Array Bool}{a:Act}{w:World}(hS:S w)
  (h:wpAnyH P I l.toArray (NoPanic Q) S E (listed.setIfInBounds i true) (a.put G.dst v) w) (hi:l[i]?=some G:=by rfl)
  (hs:Region.noSelect l.toArray=true:=by kernel_rfl) (hf:Region.free I l.toArray listed i=true:=by kernel_rfl) (hr:(Region.ready I l.toArray listed).contains i=true:=by kernel_rfl)
  (hw:Region.wanted G (yielded l.toArray a.tmps)=true:=by rfl) (hy:∀ w,S w->(execOp a.eval G).run P w=.ok (.value v) w:=by intro w O;(try dsimp only at O);go_simp;try with_reducible rfl):wpAnyH P I l.toArray (NoPanic Q) S (E+1) listed a w:=
 wpAnyH_take (List.getElem?_toArray.trans hi) hs hf hr (fun _ _ _ h=>h) (.inl ⟨hw,hy⟩) hS h
theorem tn{P:Program}{l:List Oper}{Q:Exit->Act->World->Prop}{G:Region.Mode}{S:World->Prop}(i:Nat){I:Oper}{E:Nat}{listed:Array Bool}{a:Act}{w:World}(hS:S w)
  (h:wpAnyH P G l.toArray (NoPanic Q) S E (listed.setIfInBounds i true) (a.put I.dst undef) w) (hi:l[i]?=some I:=by rfl)
  (hs:Region.noSelect l.toArray=true:=by kernel_rfl) (hf:Region.free G l.toArray listed i=true:=by kernel_rfl) (hr:(Region.ready G l.toArray listed).contains i=true:=by kernel_rfl)
  (hw:Region.wanted I (yielded l.toArray a.tmps)=false:=by rfl):wpAnyH P G l.toArray (NoPanic Q) S (E+1) listed a w:=
 wpAnyH_take (List.getElem?_toArray.trans hi) hs hf hr (fun _ _ _ h=>h) (.inr ⟨hw,rfl⟩) hS h
theorem r1{P:Program}{l:List Oper}{Q:Exit->Act->World->Prop}{I:Region.Mode}{S:World->Prop}(i:Nat){o:Oper}{E:Nat}{listed:Array Bool}{a:Act}{w:World}
  (h:∀ G:Act->World->Prop,Shut (∀ a w,S w->(S w->wpAnyH P I l.toArray Q S E (listed.setIfInBounds i true) a w)->G a w)->if Region.wanted o (yielded l.toArray a.tmps)=true then Oper.wp P o a w G Q else G (a.put o.dst undef) w)
  (hi:l[i]?=some o:=by rfl) (hr:Region.ready I l.toArray listed=[i]:=by kernel_rfl):wpAnyH P I l.toArray Q S (E+1) listed a w:=
 wpAnyH_ready hr (by simp) (AllReadyH.cons (List.getElem?_toArray.trans hi) h AllReadyH.nil)
theorem r2{P:Program}{l:List Oper}{Q:Exit->Act->World->Prop}{I:Region.Mode}{S:World->Prop}(i j:Nat){o o':Oper}{E:Nat}{listed:Array Bool}{a:Act}{w:World}
  (h:∀ G:Act->World->Prop,Shut (∀ a w,S w->(S w->wpAnyH P I l.toArray Q S E (listed.setIfInBounds i true) a w)->G a w)->if Region.wanted o (yielded l.toArray a.tmps)=true then Oper.wp P o a w G Q else G (a.put o.dst undef) w)
  (O:∀ G:Act->World->Prop,Shut (∀ a w,S w->(S w->wpAnyH P I l.toArray Q S E (listed.setIfInBounds j true) a w)->G a w)->if Region.wanted o' (yielded l.toArray a.tmps)=true then Oper.wp P o' a w G Q else G (a.put o'.dst undef) w)
  (hi:l[i]?=some o:=by rfl) (hj:l[j]?=some o':=by rfl) (hr:Region.ready I l.toArray listed=[i,j]:=by kernel_rfl):wpAnyH P I l.toArray Q S (E+1) listed a w:=
 wpAnyH_ready hr (by simp) (AllReadyH.cons (List.getElem?_toArray.trans hi) h (AllReadyH.cons (List.getElem?_toArray.trans hj) O AllReadyH.nil))
theorem pA(l:List Value)(d:List Deferred)(t:Nat)(v:Value):({ tmps:=l.toArray,defers:=d }:Act).put (some t) v={ tmps:=(l.set t v).toArray,defers:=d }:=by simp[Act.put]
theorem pN(a:Act)(v:Value):a.put none v=a:=rfl
theorem pZ{α:Type}(x v:α)(l:List α):(x :: l).set 0 v=v :: l:=rfl
theorem pS{α:Type}(x v:α)(l:List α)(n:Nat):(x :: l).set (n+1) v=x :: l.set n v:=rfl
end Go.Proofs.YtjjjagepnnbebaaGreatDoor
