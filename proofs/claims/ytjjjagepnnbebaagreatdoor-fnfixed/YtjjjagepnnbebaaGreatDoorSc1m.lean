/-
  OUR OWN TEXT. The model's side of the checker: terms, patterns.
-/
import Derived.Test.YtjjjagepnnbebaaGreatDoorKac
set_option maxHeartbeats 1600000
namespace Go.Proofs.YtjjjagepnnbebaaGreatDoor
open Go.RowKit
attribute [local go_sem ↓] Go.wp_at_zero Go.wp_at_succ
theorem zdx(v:V)(w:World) :
  Calls Tryz.prog 115 #[.agg #[.int .i64 v.kind,.int .i64 v.num,.string v.sym]] w fun e w'=>
   e=.returned (.bool (zbm v))/\Below w.heap.size w w':=by
 go_enter Tryz.func115,Tryz.ntmps115;go_wp2
 all_goals go_ret
 all_goals exact ⟨zah (by simp[zbm,isE, *]),(Below.refl _ _).alloc (Nat.le_refl _) _⟩
theorem zhA(t:Tm)(w:World)(hs:t.le maxLen) :
  Calls Tryz.prog 113 #[.agg #[.int .i64 t.kind,.int .i64 t.op,.string t.var,.int .i64 t.val.kind,.int .i64 t.val.num,.string t.val.sym]] w fun e w'=>
   e=.returned (.bool (gTm t))/\Below w.heap.size w w':=by
 obtain ⟨X,Z⟩:=hs;have O:=zHB w;obtain ⟨G⟩:Nonempty (Hid (gTm t=if t.kind==0 then t.op==0 && (isE t.var && zbm t.val)
  else if t.kind==1 then t.op==0 && (isE t.var && gVal t.val)
  else if t.kind==2 then t.op==0 && (gSym t.var.data.toList && zbm t.val)
  else if t.kind==3 then decide (1<=t.op) && (decide (t.op<=6) && ((isE t.var && gVal t.val) || (gSym t.var.data.toList && zbm t.val)))
  else false)):=⟨rfl⟩
 unfold isE at G;by_cases k0:t.kind=0
 ·have I:(t.kind==0)=true:=by simp[k0]
  cases h1:(t.op==0) <;> cases h2:t.var.toList.isEmpty <;> cases h3:zbm t.val
  all_goals
   go_enter Tryz.func113,Tryz.ntmps113;go_wp2_with (go_at_call 115;refine (zdx t.val _).mono ?_;rintro e w' ⟨rfl,E⟩)
  all_goals try go_ret
  all_goals first
   | exact ⟨zah (by rw[G.out,I,h1,h2,h3];rfl),O _⟩
   | exact ⟨zah (by rw[G.out,I,h1,h2,h3];rfl),(O _).trans (E.mono (by simp))⟩
 by_cases k1:t.kind=1
 ·have e1:(t.kind==1)=true:=by simp[k1]
  have I:(t.kind==0)=false:=by simp[k1]
  cases h1:(t.op==0) <;> cases h2:t.var.toList.isEmpty <;> cases h3:gVal t.val
  all_goals
   go_enter Tryz.func113,Tryz.ntmps113;go_wp2_with (go_at_call 114;refine (zdI t.val _ Z).mono ?_;rintro e w' ⟨rfl,E⟩)
  all_goals try go_ret
  all_goals first
   | exact ⟨zah (by rw[G.out,I,e1,h1,h2,h3];rfl),O _⟩
   | exact ⟨zah (by rw[G.out,I,e1,h1,h2,h3];rfl),(O _).trans (E.mono (by simp))⟩
 by_cases k2:t.kind=2
 ·have e2:(t.kind==2)=true:=by simp[k2]
  have e1:(t.kind==1)=false:=by simp[k2]
  have I:(t.kind==0)=false:=by simp[k2]
  cases h1:(t.op==0) <;> cases h2:gSym t.var.data.toList <;> cases h3:zbm t.val
  all_goals
   go_enter Tryz.func113,Tryz.ntmps113;go_wp2_with (first | (go_at_call 64;refine (zbp t.var _ X).mono ?_;rintro e w' ⟨rfl,rfl⟩) | (go_at_call 115;refine (zdx t.val _).mono ?_;rintro e w' ⟨rfl,E⟩))
  all_goals try go_ret
  all_goals first
   | exact ⟨zah (by rw[G.out,I,e1,e2,h1,h2,h3];rfl),O _⟩
   | exact ⟨zah (by rw[G.out,I,e1,e2,h1,h2,h3];rfl),(O _).trans (E.mono (by simp))⟩
 have e2:(t.kind==2)=false:=by simpa using k2
 have e1:(t.kind==1)=false:=by simpa using k1
 have I:(t.kind==0)=false:=by simpa using k0
 by_cases k3:t.kind=3
 ·have e3:(t.kind==3)=true:=by simp[k3]
  by_cases U:1<=t.op/\t.op<=6
  ·obtain ⟨o1,o2⟩:=U
   cases h1:t.var.toList.isEmpty
   ·cases h4:gSym t.var.data.toList <;> cases h3:zbm t.val
    all_goals
     go_enter Tryz.func113,Tryz.ntmps113;go_wp2_with (first | (go_at_call 64;refine (zbp t.var _ X).mono ?_;rintro e w' ⟨rfl,rfl⟩) | (go_at_call 115;refine (zdx t.val _).mono ?_;rintro e w' ⟨rfl,E⟩))
    all_goals try go_ret
    all_goals first
     | exact ⟨zah (by rw[G.out,I,e1,e2,e3,h1,h3,h4,decide_eq_true o1,decide_eq_true o2];rfl),O _⟩
     | exact ⟨zah (by rw[G.out,I,e1,e2,e3,h1,h3,h4,decide_eq_true o1,decide_eq_true o2];rfl),(O _).trans (E.mono (by simp))⟩
   have h4:gSym t.var.data.toList=false:=zew (by
    have:t.var.toList=[]:=by simpa using h1
    rw[<- ByteArray.toList_eq,this];rfl)
   cases h2:gVal t.val
   all_goals
    go_enter Tryz.func113,Tryz.ntmps113;go_wp2_with (first | (go_at_call 64;refine (zbp t.var _ X).mono ?_;rintro e w' ⟨rfl,rfl⟩) | (go_at_call 114;refine (zdI t.val _ Z).mono ?_;rintro e w1 ⟨rfl,ab⟩;have q2:w1.cell? ⟨w.heap.size,2,none⟩=some (.string t.var):=zaa ab (by simp[go_sem])))
   all_goals try go_ret
   all_goals exact ⟨zah (by rw[G.out,I,e1,e2,e3,h1,h2,h4,decide_eq_true o1,decide_eq_true o2];rfl),(O _).trans (ab.mono (by simp))⟩
  obtain ⟨D⟩:Nonempty (Hid (∀ z,(decide (1<=t.op) && (decide (t.op<=6) && z))=false)):=⟨fun z=>by
   by_cases h:1<=t.op
   ·have h':¬ t.op<=6:=fun h'=>U ⟨h,h'⟩;rw[decide_eq_false h'];simp
   rw[decide_eq_false h];rfl⟩
  by_cases o1:1<=t.op
  focus
   have o2:¬ t.op<=6:=fun h=>U ⟨o1,h⟩
  rotate_left
  rotate_left
  all_goals
   go_enter Tryz.func113,Tryz.ntmps113;go_wp2;go_ret;exact ⟨zah (by rw[G.out,I,e1,e2,e3];first | exact D.out _ | exact (D.out _).symm),O _⟩
 have e3:(t.kind==3)=false:=by simpa using k3
 go_enter Tryz.func113,Tryz.ntmps113;go_wp2;go_ret;exact ⟨zah (by rw[G.out,I,e1,e2,e3];rfl),O _⟩
theorem zmZ:notB.toList=[110,111,116]:=by rw[ByteArray.toList_eq];rfl
theorem zay(s:ByteArray)(w:World)(hs:s.size<=maxLen) :
  Calls Tryz.prog 112 #[.string s] w fun e w'=>e=.returned (.bool (gCls s))/\w'=w:=by
 cases h1:gSym s.data.toList
 all_goals
  go_enter Tryz.func112,Tryz.ntmps112;go_wp2_with (go_at_call 64;refine (zbp s _ hs).mono ?_;rintro e w' ⟨rfl,rfl⟩);go_ret
 ·exact ⟨zah (by simp[gCls,h1]),rfl⟩
 exact ⟨zah (by rw[gCls,h1,<- zb1,zmZ];rfl),rfl⟩
theorem zio(x:Pt)(a:Option Addr)(c:Nat){q:Option Nat}(w:World)(hv:zfP q w a x.terms)(hc:x.cls.size<=maxLen)(hs:zb3 Tm.le maxLen x.terms)(hl:x.terms.length<=1048576) :
  Calls Tryz.prog 65 #[.agg #[.bool x.neg,.string x.cls,.slice a x.terms.length c]] w fun e w'=>
   e=.returned (.bool (gPt x))/\Below w.heap.size w w':=by
 obtain ⟨G⟩:Nonempty (Hid (gPt x=(gCls x.cls && (decide (x.terms.length<=6) && x.terms.all gTm)))):=⟨rfl⟩
 have B0:=zHB w
 cases hg:gCls x.cls
 ·go_enter Tryz.func65,Tryz.ntmps65;go_wp2_with (go_at_call 112;refine (zay x.cls _ hc).mono ?_;rintro e w' ⟨rfl,rfl⟩);go_ret;exact ⟨zah (by rw[G.out,hg];rfl),B0 _⟩
 by_cases h6:6<x.terms.length
 ·have X:(6:Int)<(x.terms.length:Int):=by omega
  go_enter Tryz.func65,Tryz.ntmps65;go_wp2_with (go_at_call 112;refine (zay x.cls _ hc).mono ?_;rintro e w' ⟨rfl,rfl⟩);go_ret;exact ⟨zah (by rw[G.out,hg,decide_eq_false (by omega)];rfl),B0 _⟩
 have X:¬ (6:Int)<(x.terms.length:Int):=by omega
 go_enter Tryz.func65,Tryz.ntmps65;go_wp2_with (go_at_call 112;refine (zay x.cls _ hc).mono ?_;rintro e w' ⟨rfl,rfl⟩)
 go_loopw [18] (fun i wr=>∃ (k:Nat),k<=x.terms.length/\i=.int .i64 k/\gPt x=(x.terms.drop k).all gTm/\Below w.heap.size w wr) (fun i _=>x.terms.length - (intOf i).toNat)
 case atStart=>exact ⟨0,by omega,rfl,by rw[G.out,hg,decide_eq_true (by omega)];rfl,B0 _⟩
 case round=>
  obtain ⟨k,hk,rfl,hG,hb⟩:=hrel;have Z:Hid (gPt x=(x.terms.drop k).all gTm):=hG;clear hG;by_cases ad:k<x.terms.length
  ·obtain ⟨t,E⟩:∃ t,x.terms[k]?=some t:=⟨x.terms[k],by simp[ad]⟩
   obtain ⟨b,o,rfl,hq,c0,c1,c2,c3,c4,c5⟩:=(hv.below hb).get E;have ab:=hs.2 t (List.mem_of_getElem? E);have HD:Hid (x.terms.drop k=t :: x.terms.drop (k+1)):=zaU E;have U:∀ o,Below w.heap.size w (wr.alloc o):=fun o=>hb.alloc hb.size _
   cases O:gTm t
   all_goals
    go_wp2_with (go_at_call 113;refine (zhA t _ ab).mono ?_;rintro e w' ⟨rfl,I⟩)
   ·go_ret;exact ⟨zah (by rw[Z.out,HD.out,List.all_cons,O];rfl),(U _).trans (I.mono (U _).size)⟩
   go_roundw
   case rel=>exact ⟨k+1,by omega,by go_num,by rw[Z.out,HD.out,List.all_cons,O];rfl,(U _).trans (I.mono (U _).size)⟩
   case measure=>simp[intOf];omega
  go_wp2;go_ret;exact ⟨zah (by rw[Z.out,List.drop_eq_nil_of_le (by omega)];rfl),hb⟩
end Go.Proofs.YtjjjagepnnbebaaGreatDoor
