/-
  OUR OWN TEXT. Sc1, Sc2, Sc3a0, one behind the other.
-/
import Derived.Test.YtmmdlgjmplddiaaGreatHab
import Derived.Test.YtmmdlgjmplddiaaGreatHaa
import Derived.Test.YtmmdlgjmplddiaaGreatHah
import Derived.Deep.RegionHeld3
import Derived.Deep.DrawnRows
import Derived.BigQuiet
namespace Go.Proofs.YtmmdlgjmplddiaaGreat
open Go.RowKit
attribute [local go_sem ↓] Go.wp_at_zero Go.wp_at_succ
set_option maxHeartbeats 400000 in
theorem zbz (v:V) (w:World) :
  Calls Tryz.prog 109 #[.agg #[.int .i64 v.kind,.int .i64 v.num,.string v.sym]] w fun e w'=>
   e=.returned (.bool (zaZ v))∧Below w.heap.size w w':=by
 go_enter Tryz.func109,Tryz.ntmps109
 go_wp2
 all_goals go_ret
 all_goals exact ⟨zac (by simp [zaZ,isE, *]),(Below.refl _ _).alloc (Nat.le_refl _) _⟩
set_option maxHeartbeats 1600000 in
theorem zfN (t:Tm) (w:World) (hs:t.le maxLen) :
  Calls Tryz.prog 72 #[.agg #[.int .i64 t.kind,.int .i64 t.op,.string t.var,.int .i64 t.val.kind,.int .i64 t.val.num,.string t.val.sym]] w fun e w'=>
   e=.returned (.bool (gTm t))∧Below w.heap.size w w':=by
 obtain ⟨hs1,hs2⟩:=hs
 have B1:∀ o,Below w.heap.size w (w.alloc o):=fun o=>(Below.refl _ _).alloc (Nat.le_refl _) _
 obtain ⟨G⟩:Nonempty (Hid (gTm t=if t.kind==0 then t.op==0 && (isE t.var && zaZ t.val)
  else if t.kind==1 then t.op==0 && (isE t.var && gVal t.val)
  else if t.kind==2 then t.op==0 && (gSym t.var.data.toList && zaZ t.val)
  else if t.kind==3 then decide (1≤t.op) && (decide (t.op≤6) && ((isE t.var && gVal t.val) || (gSym t.var.data.toList && zaZ t.val)))
  else false)):=⟨rfl⟩
 unfold isE at G
 by_cases k0:t.kind=0
 ·have e0:(t.kind==0)=true:=by simp [k0]
  cases h1:(t.op==0) <;> cases h2:t.var.toList.isEmpty <;> cases h3:zaZ t.val
  all_goals
   go_enter Tryz.func72,Tryz.ntmps72
   go_wp2_with (go_at_call 109;refine (zbz t.val _).mono ?_;rintro e w' ⟨rfl,hb'⟩)
  all_goals try go_ret
  all_goals first
   | exact ⟨zac (by rw [G.out,e0,h1,h2,h3];rfl),B1 _⟩
   | exact ⟨zac (by rw [G.out,e0,h1,h2,h3];rfl),(B1 _).trans (hb'.mono (by simp))⟩
 by_cases k1:t.kind=1
 ·have e1:(t.kind==1)=true:=by simp [k1]
  have e0:(t.kind==0)=false:=by simp [k1]
  cases h1:(t.op==0) <;> cases h2:t.var.toList.isEmpty <;> cases h3:gVal t.val
  all_goals
   go_enter Tryz.func72,Tryz.ntmps72
   go_wp2_with (go_at_call 110;refine (zcr t.val _ hs2).mono ?_;rintro e w' ⟨rfl,hb'⟩)
  all_goals try go_ret
  all_goals first
   | exact ⟨zac (by rw [G.out,e0,e1,h1,h2,h3];rfl),B1 _⟩
   | exact ⟨zac (by rw [G.out,e0,e1,h1,h2,h3];rfl),(B1 _).trans (hb'.mono (by simp))⟩
 by_cases k2:t.kind=2
 ·have e2:(t.kind==2)=true:=by simp [k2]
  have e1:(t.kind==1)=false:=by simp [k2]
  have e0:(t.kind==0)=false:=by simp [k2]
  cases h1:(t.op==0) <;> cases h2:gSym t.var.data.toList <;> cases h3:zaZ t.val
  all_goals
   go_enter Tryz.func72,Tryz.ntmps72
   go_wp2_with (first | (go_at_call 87;refine (zaH t.var _ hs1).mono ?_;rintro e w' ⟨rfl,rfl⟩) | (go_at_call 109;refine (zbz t.val _).mono ?_;rintro e w' ⟨rfl,hb'⟩))
  all_goals try go_ret
  all_goals first
   | exact ⟨zac (by rw [G.out,e0,e1,e2,h1,h2,h3];rfl),B1 _⟩
   | exact ⟨zac (by rw [G.out,e0,e1,e2,h1,h2,h3];rfl),(B1 _).trans (hb'.mono (by simp))⟩
 have e2:(t.kind==2)=false:=by simpa using k2
 have e1:(t.kind==1)=false:=by simpa using k1
 have e0:(t.kind==0)=false:=by simpa using k0
 by_cases k3:t.kind=3
 ·have e3:(t.kind==3)=true:=by simp [k3]
  by_cases o12:1≤t.op∧t.op≤6
  ·obtain ⟨o1,o2⟩:=o12
   cases h1:t.var.toList.isEmpty
   ·cases h4:gSym t.var.data.toList <;> cases h3:zaZ t.val
    all_goals
     go_enter Tryz.func72,Tryz.ntmps72
     go_wp2_with (first | (go_at_call 87;refine (zaH t.var _ hs1).mono ?_;rintro e w' ⟨rfl,rfl⟩) | (go_at_call 109;refine (zbz t.val _).mono ?_;rintro e w' ⟨rfl,hb'⟩))
    all_goals try go_ret
    all_goals first
     | exact ⟨zac (by rw [G.out,e0,e1,e2,e3,h1,h3,h4,decide_eq_true o1,decide_eq_true o2];rfl),B1 _⟩
     | exact ⟨zac (by rw [G.out,e0,e1,e2,e3,h1,h3,h4,decide_eq_true o1,decide_eq_true o2];rfl),(B1 _).trans (hb'.mono (by simp))⟩
   ·have h4:gSym t.var.data.toList=false:=zdv (by
     have:t.var.toList=[]:=by simpa using h1
     rw [← ByteArray.toList_eq,this]
     rfl)
    cases h2:gVal t.val
    all_goals
     go_enter Tryz.func72,Tryz.ntmps72
     go_wp2_with (first | (go_at_call 87;refine (zaH t.var _ hs1).mono ?_;rintro e w' ⟨rfl,rfl⟩) | (go_at_call 110;refine (zcr t.val _ hs2).mono ?_;rintro e w1 ⟨rfl,hb1⟩;have q2:w1.cell? ⟨w.heap.size,2,none⟩=some (.string t.var):=zaa hb1 (by simp [go_sem])))
    all_goals try go_ret
    all_goals exact ⟨zac (by rw [G.out,e0,e1,e2,e3,h1,h2,h4,decide_eq_true o1,decide_eq_true o2];rfl),(B1 _).trans (hb1.mono (by simp))⟩
  ·obtain ⟨D⟩:Nonempty (Hid (∀ z,(decide (1≤t.op) && (decide (t.op≤6) && z))=false)):=⟨fun z=>by
    by_cases h:1≤t.op
    ·have h':¬ t.op≤6:=fun h'=>o12 ⟨h,h'⟩
     rw [decide_eq_false h']
     simp
    ·rw [decide_eq_false h]
     rfl⟩
   by_cases o1:1≤t.op
   ·have o2:¬ t.op≤6:=fun h=>o12 ⟨o1,h⟩
    go_enter Tryz.func72,Tryz.ntmps72
    go_wp2
    go_ret
    exact ⟨zac (by rw [G.out,e0,e1,e2,e3];first | exact D.out _ | exact (D.out _).symm),B1 _⟩
   ·go_enter Tryz.func72,Tryz.ntmps72
    go_wp2
    go_ret
    exact ⟨zac (by rw [G.out,e0,e1,e2,e3];first | exact D.out _ | exact (D.out _).symm),B1 _⟩
 ·have e3:(t.kind==3)=false:=by simpa using k3
  go_enter Tryz.func72,Tryz.ntmps72
  go_wp2
  go_ret
  exact ⟨zac (by rw [G.out,e0,e1,e2,e3];rfl),B1 _⟩
theorem zlg:notB.toList=[110,111,116]:=by rw [ByteArray.toList_eq];rfl
set_option maxHeartbeats 400000 in
theorem zav (s:ByteArray) (w:World) (hs:s.size≤maxLen) :
  Calls Tryz.prog 71 #[.string s] w fun e w'=>e=.returned (.bool (gCls s))∧w'=w:=by
 cases h1:gSym s.data.toList
 all_goals
  go_enter Tryz.func71,Tryz.ntmps71
  go_wp2_with (go_at_call 87;refine (zaH s _ hs).mono ?_;rintro e w' ⟨rfl,rfl⟩)
  go_ret
 ·exact ⟨zac (by simp [gCls,h1]),rfl⟩
 ·exact ⟨zac (by rw [gCls,h1,← zaM,zlg];rfl),rfl⟩
set_option maxHeartbeats 800000 in
theorem zgz (x:Pt) (a:Option Addr) (c:Nat) {q:Option Nat} (w:World) (hv:zch q w a x.terms) (hc:x.cls.size≤maxLen) (hs:zbs Tm.le maxLen x.terms) (hl:x.terms.length≤1048576) :
  Calls Tryz.prog 36 #[.agg #[.bool x.neg,.string x.cls,.slice a x.terms.length c]] w fun e w'=>
   e=.returned (.bool (gPt x))∧Below w.heap.size w w':=by
 obtain ⟨G⟩:Nonempty (Hid (gPt x=(gCls x.cls && (decide (x.terms.length≤6) && x.terms.all gTm)))):=⟨rfl⟩
 have B0:∀ o,Below w.heap.size w (w.alloc o):=fun o=>(Below.refl _ _).alloc (Nat.le_refl _) _
 cases hg:gCls x.cls
 ·go_enter Tryz.func36,Tryz.ntmps36
  go_wp2_with (go_at_call 71;refine (zav x.cls _ hc).mono ?_;rintro e w' ⟨rfl,rfl⟩)
  go_ret
  exact ⟨zac (by rw [G.out,hg];rfl),B0 _⟩
 by_cases h6:6<x.terms.length
 ·have h6':(6:Int)<(x.terms.length:Int):=by omega
  go_enter Tryz.func36,Tryz.ntmps36
  go_wp2_with (go_at_call 71;refine (zav x.cls _ hc).mono ?_;rintro e w' ⟨rfl,rfl⟩)
  go_ret
  exact ⟨zac (by rw [G.out,hg,decide_eq_false (by omega)];rfl),B0 _⟩
 ·have h6':¬ (6:Int)<(x.terms.length:Int):=by omega
  go_enter Tryz.func36,Tryz.ntmps36
  go_wp2_with (go_at_call 71;refine (zav x.cls _ hc).mono ?_;rintro e w' ⟨rfl,rfl⟩)
  go_loopw [18] (fun i wr=>∃ (k:Nat),k≤x.terms.length∧i=.int .i64 k∧gPt x=(x.terms.drop k).all gTm∧Below w.heap.size w wr) (fun i _=>x.terms.length - (intOf i).toNat)
  case atStart=>exact ⟨0,by omega,rfl,by rw [G.out,hg,decide_eq_true (by omega)];rfl,B0 _⟩
  case round=>
   obtain ⟨k,hk,rfl,hG,hb⟩:=hrel
   have HG:Hid (gPt x=(x.terms.drop k).all gTm):=hG
   clear hG
   by_cases hkl:k<x.terms.length
   ·obtain ⟨t,htk⟩:∃ t,x.terms[k]?=some t:=⟨x.terms[k],by simp [hkl]⟩
    obtain ⟨b,o,rfl,hq,c0,c1,c2,c3,c4,c5⟩:=(hv.below hb).get htk
    have hst:=hs.2 t (List.mem_of_getElem? htk)
    have HD:Hid (x.terms.drop k=t :: x.terms.drop (k+1)):=zan htk
    have B1:∀ o,Below w.heap.size w (wr.alloc o):=fun o=>hb.alloc hb.size _
    cases hgt:gTm t
    all_goals
     go_wp2_with (go_at_call 72;refine (zfN t _ hst).mono ?_;rintro e w' ⟨rfl,hb'⟩)
    ·go_ret
     exact ⟨zac (by rw [HG.out,HD.out,List.all_cons,hgt];rfl),(B1 _).trans (hb'.mono (B1 _).size)⟩
    ·go_roundw
     case rel=>exact ⟨k+1,by omega,by go_num,by rw [HG.out,HD.out,List.all_cons,hgt];rfl,(B1 _).trans (hb'.mono (B1 _).size)⟩
     case measure=>simp [intOf];omega
   ·go_wp2
    go_ret
    exact ⟨zac (by rw [HG.out,List.drop_eq_nil_of_le (by omega)];rfl),hb⟩
end Go.Proofs.YtmmdlgjmplddiaaGreat
namespace Go.Proofs.YtmmdlgjmplddiaaGreat
open Go.RowKit
attribute [local go_sem ↓] Go.wp_at_zero Go.wp_at_succ
def strR (_:World) (r:List Value) (x:ByteArray):Prop:=r=[.string x]
theorem zmk {w w':World}{r:List Value}{x:ByteArray} (h:strR w r x):strR w' r x:=h
abbrev zcJ (q:Option Nat) (w:World) (a:Option Addr) (xs:List ByteArray):Prop:=zaJ strR q 9 1 w a xs
theorem zcJ.below {q:Option Nat}{w w':World}{a:Option Addr}{xs:List ByteArray} (h:zcJ q w a xs) (hb:Below w.heap.size w w'):zcJ q w' a xs:=zaJ.below h (fun _ _ _ h=>zmk h) hb
theorem zcJ.get {q:Option Nat}{w:World}{a:Option Addr}{xs:List ByteArray}{i:Nat}{x:ByteArray} (h:zcJ q w a xs) (hi:xs[i]?=some x):∃ b o,a=some ⟨b,o,none⟩∧Qb q w 9 b∧w.cell? ⟨b,o+i,none⟩=some (.string x):=by
 obtain ⟨b,o,r,h1,h2,h3,h4,h5⟩:=h i x hi
 unfold strR at h5
 subst h5
 exact ⟨b,o,h1,h2,by simpa using h4 0 _ rfl⟩
set_option maxHeartbeats 800000 in
theorem zgo (s:ByteArray) (a:Option Addr) (c:Nat) (xs:List ByteArray) (w:World) {q:Option Nat} (hv:zcJ q w a xs) (hl:xs.length≤1048576) :
  Calls Tryz.prog 145 #[.string s,.slice a xs.length c] w fun e w'=>e=.returned (.bool (memB s xs))∧w'=w:=by
 go_enter Tryz.func145,Tryz.ntmps145
 go_wp2
 go_loopw [9] (fun i wr=>∃ (k:Nat),k≤xs.length∧i=.int .i64 k∧memB s xs=memB s (xs.drop k)∧wr=w) (fun i _=>xs.length - (intOf i).toNat)
 case atStart=>exact ⟨0,by omega,rfl,rfl,rfl⟩
 case round=>
  obtain ⟨k,hk,rfl,hG,hb⟩:=hrel
  subst hb
  have HG:Hid (memB s xs=memB s (xs.drop k)):=hG
  clear hG
  by_cases hkl:k<xs.length
  ·obtain ⟨x,hxk⟩:∃ x,xs[k]?=some x:=⟨xs[k],by simp [hkl]⟩
   obtain ⟨b,o,rfl,hq,c0⟩:=hv.get hxk
   have HD:Hid (xs.drop k=x :: xs.drop (k+1)):=zan hxk
   cases e1:(s.toList==x.toList)
   all_goals go_wp2
   ·go_roundw
    case rel=>
     refine ⟨k+1,by omega,by go_num,?_,(by first | rfl | trivial)⟩
     rw [zaM] at e1
     have:x≠s:=fun h=>by subst h;simp at e1
     rw [HG.out,HD.out]
     simp [memB,this]
    case measure=>simp [intOf];omega
   ·go_ret
    rw [zaM] at e1
    have e2:s=x:=by simpa using e1
    exact ⟨zac (by rw [HG.out,HD.out];simp [memB,e2]),rfl⟩
  ·go_wp2
   go_ret
   exact ⟨zac (by rw [HG.out,List.drop_eq_nil_of_le (by omega)];rfl),rfl⟩
set_option maxHeartbeats 800000 in
theorem zbQ (a:Option Addr) (c:Nat) (es:List Ex) (S:List Sp) (x:Nat) (s:Sp) (w:World) {q:Option Nat} (hv:za8 q w a es) (hS:Spans es S) (hx:S[x]?=some s) :
  Calls Tryz.prog 146 #[.slice a es.length c,.int .i64 (x:Int)] w fun e w'=>e=.returned (.int .i64 (s.1:Int))∧w'=w:=by
 have hSl:=hS.1
 go_enter Tryz.func146,Tryz.ntmps146
 go_wp2
 go_loopw [1] (fun i wr=>∃ (k:Nat) (t:Sp),i=.int .i64 k∧S[k]?=some t∧t.1=s.1∧wr=w) (fun i _=>(intOf i).toNat)
 case atStart=>exact ⟨x,s,rfl,hx,rfl,rfl⟩
 case round=>
  obtain ⟨k,t,rfl,hk,ht,hb⟩:=hrel
  subst hb
  have hkS:k<S.length:=(List.getElem?_eq_some_iff.1 hk).1
  obtain ⟨e,hek⟩:∃ e,es[k]?=some e:=⟨es[k]'(by omega),by simp⟩
  have hkl:k<es.length:=by omega
  obtain ⟨b,o,rfl,hq,c0,c1,c2,c3,c4,c5,c6,c7⟩:=hv.get hek
  by_cases hk2:e.kind=2
  ·obtain ⟨ea,eb,sa,sb,e1,e2,h1,h2,h3,h4,h5⟩:=hS.op hk hek hk2
   rw [e1] at c6
   go_wp2
   go_roundw
   case rel=>exact ⟨ea,sa,rfl,h3,(by rw [← ht,h5]),(by first | rfl | trivial)⟩
   case measure=>simp [intOf];omega
  ·have h5:=hS.leaf hk hek hk2
   go_wp2
   go_ret
   refine ⟨?_,rfl⟩
   rw [← ht,h5]
   rfl
set_option maxHeartbeats 800000 in
theorem zf4 (a:Option Addr) (c:Nat) (es:List Ex) {q:Option Nat} (x ea eb da db:Nat) (e:Ex) (w:World) (hv:za8 q w a es) (hek:es[x]?=some e) (hk2:e.kind=2) (e1:e.a=(ea:Int)) (e2:e.b=(eb:Int)) (d1:da≤20) (d2:db≤20)
  (I1:Calls Tryz.prog 167 #[.slice a es.length c,.int .i64 (ea:Int)] w fun e w'=>e=.returned (.int .i64 (da:Int))∧w'=w)
  (I2:Calls Tryz.prog 167 #[.slice a es.length c,.int .i64 (eb:Int)] w fun e w'=>e=.returned (.int .i64 (db:Int))∧w'=w) :
  Calls Tryz.prog 167 #[.slice a es.length c,.int .i64 (x:Int)] w fun e w'=>e=.returned (.int .i64 ((1+max da db:Nat):Int))∧w'=w:=by
 have hkl:x<es.length:=(List.getElem?_eq_some_iff.1 hek).1
 obtain ⟨b,o,rfl,hq,c0,c1,c2,c3,c4,c5,c6,c7⟩:=hv.get hek
 rw [e1] at c6
 rw [e2] at c7
 have tok:True:=trivial
 clear hq c1 c2 c3 c4 c5 hv e1 e2 hek
 by_cases hlt:(da:Int)<(db:Int)
 all_goals
  go_enter Tryz.func167,Tryz.ntmps167
  go_wp2_with (first | (go_at_call 167;have _t:=tok;refine I1.mono ?_;rintro e' w1 ⟨rfl,hb1⟩;subst hb1;clear tok) | (go_at_call 167;refine I2.mono ?_;rintro e'' w2 ⟨rfl,hb2⟩;subst hb2))
  go_ret
  refine ⟨zaX ?_,rfl⟩
  omega
set_option maxHeartbeats 800000 in
theorem zfc (a:Option Addr) (c:Nat) (es:List Ex) (S:List Sp) {q:Option Nat} (w:World) (hv:za8 q w a es) (hS:Spans es S):∀ (x:Nat) (s:Sp),S[x]?=some s →
  Calls Tryz.prog 167 #[.slice a es.length c,.int .i64 (x:Int)] w fun e w'=>e=.returned (.int .i64 (s.2:Int))∧w'=w:=by
 have hSl:=hS.1
 intro x
 induction x using Nat.strongRecOn with
 | _ x ih=>
  intro s hk
  have hkS:x<S.length:=(List.getElem?_eq_some_iff.1 hk).1
  obtain ⟨e,hek⟩:∃ e,es[x]?=some e:=⟨es[x]'(by omega),by simp⟩
  have hkl:x<es.length:=by omega
  by_cases hk2:e.kind=2
  ·obtain ⟨ea,eb,sa,sb,e1,e2,h1,h2,h3,h4,h5⟩:=hS.op hk hek hk2
   have:=zf4 a c es x ea eb sa.2 sb.2 e w hv hek hk2 e1 e2 (hS.depth_le ea sa h3) (hS.depth_le eb sb h4) (ih ea (by omega) sa h3) (ih eb (by omega) sb h4)
   rw [h5]
   exact this
  ·have h5:=hS.leaf hk hek hk2
   obtain ⟨b,o,rfl,hq,c0,c1,c2,c3,c4,c5,c6,c7⟩:=hv.get hek
   go_enter Tryz.func167,Tryz.ntmps167
   go_wp2
   go_ret
   exact ⟨by rw [h5];rfl,rfl⟩
set_option maxHeartbeats 800000 in
theorem zfI (x:Ru) (a_pats:Option Addr) (c_pats:Nat) (a_exprs:Option Addr) (c_exprs:Nat) (a_acts:Option Addr) (c_acts:Nat) {q:Option Nat} (w:World) (h_pats:zbY q w a_pats x.pats) (hl:x.pats.length≤1048576) :
  Calls Tryz.prog 117 #[.agg #[.string x.name,.int .i64 x.sal,.slice a_pats x.pats.length c_pats,.slice a_exprs x.exprs.length c_exprs,.slice a_acts x.acts.length c_acts]] w fun e w'=>
   e=.returned (.int .i64 (positives x.pats:Int))∧Below w.heap.size w w':=by
 go_enter Tryz.func117,Tryz.ntmps117
 go_wp2
 go_loopw [3,9] (fun l i wr=>∃ (k:Nat),k≤x.pats.length∧i=.int .i64 k∧l=.int .i64 (positives (x.pats.take k):Int)∧Below w.heap.size w wr) (fun _ i _=>x.pats.length - (intOf i).toNat)
 case atStart=>exact ⟨0,by omega,rfl,by simp [positives],(Below.refl _ _).alloc (Nat.le_refl _) _⟩
 case round=>
  obtain ⟨k,hk,rfl,rfl,hb⟩:=hrel
  have hp:positives (x.pats.take k)≤x.pats.length:=Nat.le_trans List.countP_le_length (by simp;omega)
  by_cases hkl:k<x.pats.length
  ·obtain ⟨p,hpk⟩:∃ p,x.pats[k]?=some p:=⟨x.pats[k],by simp [hkl]⟩
   obtain ⟨b,o,a_terms,c_terms,rfl,hq,c0,c1,c2,h_terms⟩:=(h_pats.below hb).get hpk
   have HT:Hid (x.pats.take (k+1)=x.pats.take k ++ [p]):=zbV _ _ _ hpk
   have B1:∀ o,Below w.heap.size w (wr.alloc o):=fun o=>hb.alloc hb.size _
   cases hn:p.neg
   all_goals
    rw [hn] at c0
    go_wp2
    go_roundw
    case rel=>exact ⟨k+1,by omega,by go_num,by rw [HT.out];simp [positives,pos1,hn],B1 _⟩
    case measure=>simp [intOf];omega
  ·go_wp2
   go_ret
   rw [List.take_of_length_le (by omega)]
   exact ⟨rfl,hb⟩
end Go.Proofs.YtmmdlgjmplddiaaGreat
namespace Go.Proofs.YtmmdlgjmplddiaaGreat
open Go.RowKit
attribute [local go_sem ↓] Go.wp_at_zero Go.wp_at_succ
theorem zdR {es:List Ex}{S:List Sp} (h:Spans es S) {i:Nat}{s:Sp} (hi:S[i]?=some s):s.1≤es.length:=by
 have:=h.first_le i s hi
 have h1:i<S.length:=(List.getElem?_eq_some_iff.1 hi).1
 have:=h.1
 omega
theorem za5 {B n:Nat}{a w:World} (h:Below B a w):Below B a (w.drewN n):=⟨h.os,h.tape,h.output,h.size,h.block⟩
theorem zdJ {w:World}{b g o i:Nat}{x:Value} (h:b≠g):(w.setCell ⟨g,i,none⟩ x).cell? ⟨b,o,none⟩=w.cell? ⟨b,o,none⟩:=by
 unfold World.cell?
 rw [Below.heap_setCell _ _ _ _ h]
theorem za0 {S:List Sp}{x:Int}{r:List Int}{nx:Nat}:zaP S (x :: r) nx=if decide (0≤x) && (decide (x<(S.length:Int)) && decide ((S[x.toNat]?.getD (0,0)).1=nx)) then zaP S r (x.toNat+1) else none:=rfl
end Go.Proofs.YtmmdlgjmplddiaaGreat
