/-
  OUR OWN TEXT. The model's side of the checker: exprs.
-/
import Derived.Test.YtmmdlgjmplddiaaGreatSc4o1m
import Derived.Test.YtmmdlgjmplddiaaGreatSc4o2m
import Derived.Test.YtmmdlgjmplddiaaGreatSc4o3m
import Derived.Test.YtmmdlgjmplddiaaGreatSc4o4m
import Derived.Test.YtmmdlgjmplddiaaGreatSc4o5m
import Derived.Test.YtmmdlgjmplddiaaGreatSc4o6m
namespace Go.Proofs.YtmmdlgjmplddiaaGreat
open Go.RowKit
attribute [local go_sem ↓] Go.wp_at_zero Go.wp_at_succ
set_option maxHeartbeats 1600000 in
theorem zfO (a:Option Addr) (c:Nat) (es:List Ex) (S:List Sp) (e:Ex) (w:World) {q:Option Nat} (hv:za8 q w a es) (hl:es.length≤60) (hS:Spans es S) (he:es[S.length]?=some e) (hs:e.le maxLen) (ho0:0≤e.op) (ho1:e.op<256) :
  Calls Tryz.prog 143 #[.slice a es.length c,.int .i64 (S.length:Int)] w fun e' w'=>e'=.returned (.bool (zaE S e).isSome)∧Below w.heap.size w w':=by
 obtain ⟨hs1,hs2⟩:=hs
 have hkl:S.length<es.length:=(List.getElem?_eq_some_iff.1 he).1
 have B1:∀ o,Below w.heap.size w (w.alloc o):=fun o=>(Below.refl _ _).alloc (Nat.le_refl _) _
 have hv0:=hv
 obtain ⟨b,o,rfl,hq,c0,c1,c2,c3,c4,c5,c6,c7⟩:=hv.get he
 clear hq hv
 by_cases k0:e.kind=0
 ·have e0:(e.kind==0)=true:=by simp [k0]
  cases h1:(e.op==0) <;> cases h2:(e.a==0) <;> cases h3:(e.b==0) <;> cases h4:e.var.toList.isEmpty
  all_goals
   go_enter Tryz.func143,Tryz.ntmps143
   go_wp2_with (go_at_call 110;refine (zcr e.val _ hs2).mono ?_;rintro e' w' ⟨rfl,hb'⟩)
   go_ret
  all_goals first
   | exact ⟨zac (by simp [zaE,zaR,isE,e0,h1,h2,h3,h4]),B1 _⟩
   | exact ⟨zac (by simp [zaE,zaR,isE,e0,h1,h2,h3,h4];cases gVal e.val <;> rfl),(B1 _).trans (hb'.mono (by simp))⟩
 by_cases k1:e.kind=1
 ·have e0:(e.kind==0)=false:=by simp [k1]
  have e1:(e.kind==1)=true:=by simp [k1]
  cases h1:(e.op==0) <;> cases h2:(e.a==0) <;> cases h3:(e.b==0) <;> cases h4:gSym e.var.data.toList
  all_goals
   go_enter Tryz.func143,Tryz.ntmps143
   go_wp2_with (first | (go_at_call 87;refine (zaH e.var _ hs1).mono ?_;rintro e' w' ⟨rfl,rfl⟩) | (go_at_call 109;refine (zbz e.val _).mono ?_;rintro e' w' ⟨rfl,hb'⟩))
   go_ret
  all_goals first
   | exact ⟨zac (by simp [zaE,zaR,e0,e1,h1,h2,h3,h4]),B1 _⟩
   | exact ⟨zac (by simp [zaE,zaR,e0,e1,h1,h2,h3,h4];cases zaZ e.val <;> rfl),(B1 _).trans (hb'.mono (by simp))⟩
 have e0:(e.kind==0)=false:=by simpa using k0
 have e1:(e.kind==1)=false:=by simpa using k1
 by_cases k2:e.kind=2
 ·have hz:e.val.sym.size≤maxLen:=hs2
  have e2:(e.kind==2)=true:=by simp [k2]
  have hSp:(zaE S e).isSome=(if opOk S e then zcU S e.a e.b else none).isSome:=by simp [zaE,k2]
  clear c0 c1 c2 c3 c4 c5 c6 c7 hz
  cases har:isAr e.op
  ·rw [show (zaE S e).isSome=false by rw [hSp];simp [opOk,har]]
   exact zis _ c es S e w hv0 he ho0 ho1 k2 har
  cases hva:e.var.toList.isEmpty
  ·rw [show (zaE S e).isSome=false by rw [hSp];simp [opOk,isE,hva]]
   exact zh0 _ c es S e w hv0 he ho0 ho1 k2 har hva
  cases hzv:zaZ e.val
  ·rw [show (zaE S e).isSome=false by rw [hSp];simp [opOk,hzv]]
   exact zia _ c es S e w hv0 he ho0 ho1 k2 har hva hzv
  by_cases hbi:e.b=(S.length:Int) - 1
  ·by_cases hb0:e.b<0
   ·rw [show (zaE S e).isSome=false by rw [hSp];simp [opOk,show ¬ 0≤e.b by omega]]
    exact ziw _ c es S e w hv0 he ho0 ho1 k2 har hva hzv hbi hb0
   by_cases ha0:e.a<0
   ·rw [show (zaE S e).isSome=false by rw [hSp];simp [opOk,show ¬ 0≤e.a by omega]]
    exact zh8 _ c es S e w hv0 hl he ho0 ho1 k2 har hva hzv hbi hb0 ha0
   obtain ⟨bn,heb⟩:=Int.eq_ofNat_of_zero_le (show 0≤e.b by omega)
   have hbn:bn+1=S.length:=by omega
   obtain ⟨sb,hsb⟩:∃ s,S[bn]?=some s:=⟨S[bn]'(by omega),by simp⟩
   obtain ⟨ea,hea⟩:=Int.eq_ofNat_of_zero_le (show 0≤e.a by omega)
   have hok:opOk S e=true:=by
    simp only [opOk,har,isE,hva,hzv,Bool.true_and,Bool.and_eq_true,decide_eq_true_eq]
    exact ⟨hbi,by omega,by omega⟩
   have hab:(zaE S e).isSome=(zcU S e.a e.b).isSome:=by rw [hSp,hok];rfl
   have hfl:=hS.first_le bn sb hsb
   cases hd:(e.a==(sb.1:Int) - 1)
   ·have hne:¬ e.a=(sb.1:Int) - 1:=by simpa using hd
    rw [show (zaE S e).isSome=false by
     rw [hab]
     unfold zcU
     rw [heb,Int.toNat_natCast,hsb]
     cases S[e.a.toNat]? <;> simp [hne]]
    exact zhj _ c es S e w hv0 hl he ho0 ho1 k2 har hva hzv hS bn hbn heb sb hsb ha0 hd
   ·have heq:e.a=(sb.1:Int) - 1:=by simpa using hd
    obtain ⟨sa,hsa⟩:∃ s,S[ea]?=some s:=⟨S[ea]'(by omega),by simp⟩
    rw [show (zaE S e).isSome=decide (1+max sa.2 sb.2≤20) by
     rw [hab]
     unfold zcU
     have hde:decide ((ea:Int)=(sb.1:Int) - 1)=true:=decide_eq_true (by omega)
     rw [heb,hea,Int.toNat_natCast,Int.toNat_natCast,hsb,hsa]
     simp only [hde,Bool.true_and]
     by_cases hm:1+max sa.2 sb.2≤20
     ·rw [decide_eq_true hm];rfl
     ·rw [decide_eq_false hm];rfl]
    exact zhG _ c es S e w hv0 hl he ho0 ho1 k2 har hva hzv hS bn hbn heb sb hsb ha0 hd ea sa hea hsa
  ·rw [show (zaE S e).isSome=false by rw [hSp];simp [opOk,hbi]]
   exact ziq _ c es S e w hv0 hl he ho0 ho1 k2 har hva hzv hbi
 ·have e2:(e.kind==2)=false:=by simpa using k2
  cases h1:(e.op==0) <;> cases h2:(e.a==0) <;> cases h3:(e.b==0)
  all_goals
   go_enter Tryz.func143,Tryz.ntmps143
   go_wp2
   go_ret
   exact ⟨zac (by simp [zaE,e0,e1,e2]),B1 _⟩
end Go.Proofs.YtmmdlgjmplddiaaGreat
