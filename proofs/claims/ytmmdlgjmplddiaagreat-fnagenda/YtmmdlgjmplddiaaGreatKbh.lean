/-
  OUR OWN TEXT. Unl, An0, Pg2, Ap3, Sc3, Ic8, one behind the other.
-/
import Derived.Test.YtmmdlgjmplddiaaGreatKay
import Derived.Deep.RegionWith
import Derived.Test.YtmmdlgjmplddiaaGreatKas
import Derived.Test.YtmmdlgjmplddiaaGreatKau
import Derived.Test.YtmmdlgjmplddiaaGreatSc1m
import Derived.Test.YtmmdlgjmplddiaaGreatKar
import Derived.Test.YtmmdlgjmplddiaaGreatKav
import Derived.Deep.RegionHeld3
import Derived.Deep.DrawnRows
import Derived.BigQuiet
import Derived.Test.YtmmdlgjmplddiaaGreatKat
import Derived.StringKeys
import Derived.Maps.Own
import Derived.Maps.Views
import Derived.Maps.Keyed
namespace Go.Proofs.YtmmdlgjmplddiaaGreat
open Go.RowKit Go.Maps
attribute [local go_sem ↓] Go.wp_at_zero Go.wp_at_succ
end Go.Proofs.YtmmdlgjmplddiaaGreat
namespace Go.Proofs.YtmmdlgjmplddiaaGreat
def Tt.tup (t:Tt):Int × Int × Int × Int × Int × ByteArray:=(t.slot,t.op,t.other,t.val.kind,t.val.num,t.val.sym)
def Al.tup (x:Al):ByteArray × Int × List (Int × Int × Int × Int × Int × ByteArray):=(x.cls,x.arity,x.tests.map Tt.tup)
theorem Tt.tup_inj {x y:Tt} (h:x.tup=y.tup):x=y:=by
 obtain ⟨a1,a2,a3,a4,a5,a6⟩:=x
 obtain ⟨b1,b2,b3,b4,b5,b6⟩:=y
 simp only [Tt.tup,V.kind,V.num,V.sym,Prod.mk.injEq] at h
 obtain ⟨rfl,rfl,rfl,rfl,rfl,rfl⟩:=h
 rfl
theorem zjC:∀ {xs ys:List Tt},xs.map Tt.tup=ys.map Tt.tup→xs=ys
 | [],[],_=>rfl
 | [],_ :: _,h=>by simp at h
 | _ :: _,[],h=>by simp at h
 | x :: xs,y :: ys,h=>by
  simp only [List.map_cons,List.cons.injEq] at h
  rw [Tt.tup_inj h.1,zjC h.2]
theorem Al.tup_inj {x y:Al} (h:x.tup=y.tup):x=y:=by
 obtain ⟨a1,a2,a3⟩:=x
 obtain ⟨b1,b2,b3⟩:=y
 simp only [Al.tup,Prod.mk.injEq] at h
 obtain ⟨rfl,rfl,h3⟩:=h
 rw [zjC h3]
def zki (x y:Al):Bool:=decide (x.cls=y.cls) && (decide (x.arity=y.arity) && decide (x.tests.map Tt.tup=y.tests.map Tt.tup))
theorem zfc {x y:Al}:zki x y=true ↔ x=y:=by
 unfold zki
 simp only [Bool.and_eq_true,decide_eq_true_eq]
 exact ⟨fun h=>Al.tup_inj (by simp [Al.tup,h.1,h.2.1,h.2.2]),fun h=>by rw [h];exact ⟨rfl,rfl,rfl⟩⟩
def zbS (x:Al):List Al→Nat
 | []=>0
 | y :: r=>if zki y x then 0 else zbS x r+1
theorem zjK (x:Al):∀ A:List Al,zbS x A≤A.length
 | []=>Nat.le_refl _
 | y :: r=>by
  have:=zjK x r
  unfold zbS
  split <;> simp
  omega
theorem zjV {x:Al}:∀ {A:List Al},zbS x A<A.length→A[zbS x A]?=some x
 | [],h=>by simp at h
 | y :: r,h=>by
  unfold zbS at h ⊢
  split
  ·rename_i hs
   rw [zfc.1 hs]
   rfl
  ·rename_i hs
   rw [if_neg hs] at h
   simp only [List.getElem?_cons_succ]
   exact zjV (by simpa using h)
def addA (A:List Al) (x:Al):List Al:=if zbS x A<A.length then A else A ++ [x]
theorem zjP {A:List Al}{x:Al} (h:zbS x A<A.length):addA A x=A:=if_pos h
theorem zjD {A:List Al}{x:Al} (h:¬ zbS x A<A.length):addA A x=A ++ [x]:=if_neg h
theorem zh5 {A:List Al}{x:Al} (h:¬ zbS x A<A.length):zbS x A=A.length:=by have:=zjK x A;omega
theorem zjH (A:List Al) (x:Al):(addA A x).length≤A.length+1:=by
 unfold addA
 split <;> simp
theorem zc7 (p:Pt):(zaE p).tests.length≤6:=by
 unfold zaE
 split
 ·rename_i h
  exact Nat.le_trans (zec _ _) (zi8 h)
 ·simp
end Go.Proofs.YtmmdlgjmplddiaaGreat
namespace Go.Proofs.YtmmdlgjmplddiaaGreat
open Go.RowKit
attribute [local go_sem ↓] Go.wp_at_zero Go.wp_at_succ
theorem hmfP (fn:Fn) (first cap:Array Value) (w:World):(Instr.makeFunc fn first cap).run Tryz.prog w=.ok (.func fn first cap) w:=rfl
def zhH (w:World) (a:Option Addr) (fs:List F):Prop:=∀ (i:Nat) (f:F),fs[i]?=some f→∃ b o pv,a=some ⟨b,o,none⟩∧w.cell? ⟨b,o+i,none⟩=some pv∧zcG w pv f
theorem zhH.below {w w':World}{a:Option Addr}{fs:List F} (h:zhH w a fs) (hb:Below w.heap.size w w'):zhH w' a fs:=by
 intro i f hi
 obtain ⟨b,o,pv,e,h1,h2⟩:=h i f hi
 exact ⟨b,o,pv,e,zaa hb h1,h2.below hb⟩
structure ziW (w:World) (cb tb:Nat) (ng ct nd p0 p1 p2:Value) (ta:Option Addr) (n tc:Nat):Prop where
 c0:w.cell? ⟨cb,0,none⟩=some ng
 c1:w.cell? ⟨cb,1,none⟩=some ct
 c2:w.cell? ⟨cb,2,none⟩=some nd
 c3:w.cell? ⟨cb,3,none⟩=some (.slice ta n tc)
 t0:w.cell? ⟨tb,0,none⟩=some p0
 t1:w.cell? ⟨tb,1,none⟩=some p1
 t2:w.cell? ⟨tb,2,none⟩=some p2
theorem ziW.below {w w':World}{cb tb:Nat}{ng ct nd p0 p1 p2:Value}{ta:Option Addr}{n tc:Nat} (h:ziW w cb tb ng ct nd p0 p1 p2 ta n tc) (hb:Below w.heap.size w w'):ziW w' cb tb ng ct nd p0 p1 p2 ta n tc:=
 ⟨zaa hb h.c0,zaa hb h.c1,zaa hb h.c2,zaa hb h.c3,zaa hb h.t0,zaa hb h.t1,zaa hb h.t2⟩
set_option maxHeartbeats 3200000 in
theorem ziG (cb tb:Nat) (ng ct nd p0 p1 p2 pf:Value) (ts:List Jt) (ta:Option Addr) (tc:Nat) (T:List F) (f:F) (w:World) (hC:ziW w cb tb ng ct nd p0 p1 p2 ta ts.length tc) (h_t:zd2 w ta ts) (h_T:zeS w p0 p1 p2 T) (h_f:zcG w pf f) (hl:ts.length≤1048576) (hfit:∀ t∈ts,t.fits T f) :
  Calls Tryz.prog 96 #[pf,.pointer (some ⟨cb,0,none⟩),.pointer (some ⟨tb,0,none⟩)] w fun e w'=>e=.returned (.bool (ts.all (zaK T f)))∧Below w.heap.size w w':=by
 have HA:=hidP (zgI ng ct nd p0 p1 p2 pf ts ta tc T f w h_t h_T h_f hl hfit)
 obtain ⟨c0,c1,c2,c3,t0,t1,t2⟩:=hC
 clear h_t h_T h_f hfit
 go_enter Tryz.func96,Tryz.ntmps96
 go_wp2_with fail
 refine HA.out.mono ?_
 rintro e w1 ⟨rfl,hb1⟩
 have B1:=hidP hb1
 clear HA hb1
 go_wp2_with fail
 go_ret
 exact ⟨rfl,B1.out⟩
set_option maxHeartbeats 3200000 in
theorem zgS (cb tb:Nat) (ng ct nd p0 p1 p2:Value) (ts:List Jt) (ta:Option Addr) (tc:Nat) (T:List F) (fs:List F) (fa:Option Addr) (fc:Nat) (w:World) (hC:ziW w cb tb ng ct nd p0 p1 p2 ta ts.length tc) (h_t:zd2 w ta ts) (h_T:zeS w p0 p1 p2 T) (h_f:zhH w fa fs) (hl:ts.length≤1048576) (hlf:fs.length≤1048576) (hfit:∀ f∈fs,∀ t∈ts,t.fits T f) :
  Calls Tryz.prog 128 #[.slice fa fs.length fc,.func (.func 96) #[] #[.pointer (some ⟨cb,0,none⟩),.pointer (some ⟨tb,0,none⟩)]] w fun e w'=>(∃ n:Int,e=.returned (.int .i64 n)∧decide (0≤n)=fs.any (fun f=>ts.all (zaK T f)))∧Below w.heap.size w w':=by
 have HC:=hidP hC
 have HJ:=hidP h_t
 have HT:=hidP h_T
 have HF:=hidP h_f
 have HFI:=hidP hfit
 clear hC h_t h_T h_f hfit
 go_enter Tryz.func128,Tryz.ntmps128
 go_wp2_with fail
 go_loopw [8] (fun iv wr=>∃ (k:Nat),iv=.int .i64 (k:Int)∧k≤fs.length∧fs.any (fun f=>ts.all (zaK T f))=(fs.drop k).any (fun f=>ts.all (zaK T f))∧Below w.heap.size w wr) (fun iv _=>fs.length - (intOf iv).toNat)
 case atStart=>exact ⟨0,rfl,Nat.zero_le _,rfl,Below.refl _ _⟩
 case round=>
  obtain ⟨k,rfl,hkl,hG,hb⟩:=hrel
  have HG:=hidP hG
  have HBW:=hidP hb
  clear hG hb
  by_cases hk:k<fs.length
  ·obtain ⟨f,hf⟩:∃ f,fs[k]?=some f:=⟨fs[k],by simp [hk]⟩
   obtain ⟨fb,fo,pv,rfl,y0,hpv⟩:=(HF.out.below HBW.out) k f hf
   have HD:=hidP (show fs.any (fun f=>ts.all (zaK T f))=(ts.all (zaK T f) || (fs.drop (k+1)).any (fun f=>ts.all (zaK T f))) by rw [HG.out,zak hf,List.any_cons])
   have HB:=hidP (ziG cb tb ng ct nd p0 p1 p2 pv ts ta tc T f wr (HC.out.below HBW.out) (HJ.out.below HBW.out) (HT.out.below HBW.out) hpv hl (HFI.out f (List.mem_of_getElem? hf)))
   have z0:(0:Int)≤(k:Int):=by omega
   have z1:(k:Int)<(fs.length:Int):=by omega
   clear hf hpv HG
   cases hm:ts.all (zaK T f)
   ·have HN:=hidP (show fs.any (fun f=>ts.all (zaK T f))=(fs.drop (k+1)).any (fun f=>ts.all (zaK T f)) by rw [HD.out,hm];rfl)
    rw [hm] at HB
    clear hm HD
    go_wp2_with fail
    refine HB.out.mono ?_
    rintro e w1 ⟨rfl,hb1⟩
    have B1:=hidP (HBW.out.trans (hb1.mono HBW.out.size))
    clear hb1 HB
    go_wp2_with fail
    go_roundw
    case rel=>exact ⟨k+1,by go_num,by omega,HN.out,B1.out⟩
    case measure=>(simp [intOf];omega)
   ·have HN:=hidP (show fs.any (fun f=>ts.all (zaK T f))=true by rw [HD.out,hm];rfl)
    rw [hm] at HB
    clear hm HD
    go_wp2_with fail
    refine HB.out.mono ?_
    rintro e w1 ⟨rfl,hb1⟩
    have B1:=hidP (HBW.out.trans (hb1.mono HBW.out.size))
    clear hb1 HB
    go_wp2_with fail
    go_ret
    exact ⟨⟨k,rfl,by rw [HN.out];exact decide_eq_true z0⟩,B1.out⟩
  ·have hke:k=fs.length:=by omega
   subst hke
   have HN:=hidP (show fs.any (fun f=>ts.all (zaK T f))=false by rw [HG.out,List.drop_eq_nil_of_le (Nat.le_refl _)];rfl)
   have hy:¬ (fs.length:Int)<(fs.length:Int):=by omega
   go_wp2_with fail
   go_ret
   exact ⟨⟨-1,rfl,by rw [HN.out];rfl⟩,HBW.out⟩
set_option maxHeartbeats 3200000 in
theorem zeQ (cb tb:Nat) (ng ct nd p0 p1 p2:Value) (ts:List Jt) (ta:Option Addr) (tc:Nat) (T:List F) (fs:List F) (fa:Option Addr) (fc:Nat) (w:World) (hC:ziW w cb tb ng ct nd p0 p1 p2 ta ts.length tc) (h_t:zd2 w ta ts) (h_T:zeS w p0 p1 p2 T) (h_f:zhH w fa fs) (hl:ts.length≤1048576) (hlf:fs.length≤1048576) (hfit:∀ f∈fs,∀ t∈ts,t.fits T f) :
  Calls Tryz.prog 95 #[.slice fa fs.length fc,.func (.func 96) #[] #[.pointer (some ⟨cb,0,none⟩),.pointer (some ⟨tb,0,none⟩)]] w fun e w'=>e=.returned (.bool (fs.any (fun f=>ts.all (zaK T f))))∧Below w.heap.size w w':=by
 have HI:=hidP (zgS cb tb ng ct nd p0 p1 p2 ts ta tc T fs fa fc w hC h_t h_T h_f hl hlf hfit)
 clear hC h_t h_T h_f hfit
 go_enter Tryz.func95,Tryz.ntmps95
 go_wp2_with fail
 refine HI.out.mono ?_
 rintro e w1 ⟨⟨n,rfl,hn⟩,hb1⟩
 have B1:=hidP hb1
 have HN:=hidP hn
 clear HI hb1 hn
 go_wp2_with fail
 go_ret
 exact ⟨zac HN.out,B1.out⟩
set_option maxHeartbeats 3200000 in
theorem zkr (ng ct p0 p1 p2:Value) (nb:Nat) (ts:List Jt) (ta:Option Addr) (tc:Nat) (T:List F) (fs:List F) (fa:Option Addr) (fc:Nat) (w:World) (h_n:w.cell? ⟨nb,4,none⟩=some (.slice fa fs.length fc)) (h_t:zd2 w ta ts) (h_T:zeS w p0 p1 p2 T) (h_f:zhH w fa fs) (hl:ts.length≤1048576) (hlf:fs.length≤1048576) (hfit:∀ f∈fs,∀ t∈ts,t.fits T f) :
  Calls Tryz.prog 57 #[.agg #[ng,ct,.pointer (some ⟨nb,0,none⟩),.slice ta ts.length tc],.agg #[p0,p1,p2]] w fun e w'=>e=.returned (.bool (fs.any (fun f=>ts.all (zaK T f))))∧Below w.heap.size w w':=by
 have HJ:=hidP h_t
 have HT:=hidP h_T
 have HF:=hidP h_f
 have HFI:=hidP hfit
 have hmf:=hmfP
 clear h_t h_T h_f hfit
 go_enter Tryz.func57,Tryz.ntmps57
 go_upto_region 1 with fail
 refine lift2P ?_
 intro w0 hW0 hq0 hq1
 obtain ⟨c0,c1,c2,c3⟩:=cells4P hq0
 obtain ⟨t0,t1,t2⟩:=cells3P hq1
 have HC:=hidP (show ziW w0 w.heap.size (w.heap.size+1) ng ct (.pointer (some ⟨nb,0,none⟩)) p0 p1 p2 ta ts.length tc from ⟨c0,c1,c2,c3,t0,t1,t2⟩)
 have H0:=hidP hW0
 have n4:=zaa hW0 h_n
 have HS:=hidP (zeQ w.heap.size (w.heap.size+1) ng ct (.pointer (some ⟨nb,0,none⟩)) p0 p1 p2 ts ta tc T fs fa fc w0 HC.out (HJ.out.below hW0) (HT.out.below hW0) (HF.out.below hW0) hl hlf HFI.out)
 clear hW0 hq0 hq1 h_n
 go_wp2_with fail
 refine HS.out.mono ?_
 rintro e w1 ⟨rfl,hb1⟩
 have B1:=hidP (H0.out.trans (hb1.mono H0.out.size))
 clear HS hb1
 go_wp2_with fail
 go_ret
 exact ⟨rfl,B1.out⟩
end Go.Proofs.YtmmdlgjmplddiaaGreat
namespace Go.Proofs.YtmmdlgjmplddiaaGreat
open Go.RowKit
theorem zkq {x:Al}{f:F} (h:¬ f.cls.toList=x.cls.toList):passes x f=false:=by simp [passes,h]
theorem zkf {x:Al}{f:F} (h:¬ (f.slots.length:Int)=x.arity):passes x f=false:=by simp [passes,h]
theorem zkK {x:Al}{f:F} (h:f.cls.toList=x.cls.toList) (h':(f.slots.length:Int)=x.arity):passes x f=x.tests.all (fun t=>zbx t f.slots):=by simp [passes,h,h']
def zmI (w:World) (b:Nat) (f:F) (a:Option Addr) (c:Nat):Prop:=w.cell? ⟨b,0,none⟩=some (.int .i64 f.tag)∧w.cell? ⟨b,1,none⟩=some (.string f.cls)∧w.cell? ⟨b,2,none⟩=some (.slice a f.slots.length c)
theorem zmI.below {w w':World}{b:Nat}{f:F}{a:Option Addr}{c:Nat} (h:zmI w b f a c) (hb:Below w.heap.size w w'):zmI w' b f a c:=⟨zaa hb h.1,zaa hb h.2.1,zaa hb h.2.2⟩
set_option maxHeartbeats 1600000 in
theorem zl4 (x:Al) (a_tests:Option Addr) (c_tests:Nat) (f:F) (a:Option Addr) (c:Nat) {q:Option Nat} (w:World) (ht:zcp q w a_tests x.tests) (hv:zaV w a f.slots) (hl:x.tests.length≤1048576) :
  Calls Tryz.prog 70 #[.agg #[.string x.cls,.int .i64 x.arity,.slice a_tests x.tests.length c_tests],.agg #[.int .i64 f.tag,.string f.cls,.slice a f.slots.length c]] w fun e w'=>
   e=.returned (.bool (passes x f))∧Below w.heap.size w w':=by
 have B2:∀ o o1,Below w.heap.size w ((w.alloc o).alloc o1):=fun o o1=>((Below.refl _ _).alloc (Nat.le_refl _) _).alloc (by simp) _
 by_cases hc:f.cls.toList=x.cls.toList
 ·by_cases hn:(f.slots.length:Int)=x.arity
  ·have HG0:Hid (passes x f=x.tests.all (fun t=>zbx t f.slots)):=zkK hc hn
   have hn':((f.slots.length:Int) != x.arity)=false:=by simp [hn]
   go_enter Tryz.func70,Tryz.ntmps70
   go_wp2
   clear hc hn hn'
   go_loopw [23] (fun i wr=>∃ (k:Nat),k≤x.tests.length∧i=.int .i64 k∧passes x f=(x.tests.drop k).all (fun t=>zbx t f.slots)∧zmI wr (w.heap.size+1) f a c∧Below w.heap.size w wr) (fun i _=>x.tests.length - (intOf i).toNat)
   case atStart=>exact ⟨0,by omega,rfl,HG0.out,by refine ⟨?_,?_,?_⟩ <;> simp [go_sem],B2 _ _⟩
   case round=>
    obtain ⟨k,hk,rfl,hG,hbox,hb⟩:=hrel
    have HG:=hidA hG
    have HBX:=hidA hbox
    clear hG
    by_cases hkl:k<x.tests.length
    ·obtain ⟨t,htk⟩:∃ t,x.tests[k]?=some t:=⟨x.tests[k],by simp [hkl]⟩
     obtain ⟨b,o,rfl,hq,c0,c1,c2,c3,c4,c5⟩:=(ht.below hb).get htk
     have HD:Hid (x.tests.drop k=t :: x.tests.drop (k+1)):=zak htk
     have B1:∀ o,Below wr.heap.size wr (wr.alloc o):=fun o=>(Below.refl _ _).alloc (Nat.le_refl _) _
     have hV:=hidA (fun o=>(hv.below hb).below (B1 o))
     have hT:=hidA (fun w' h=>zj6 t f a c w' h)
     have q0:∀ o,(wr.alloc o).cell? ⟨w.heap.size+1,0,none⟩=_:=fun o=>zaa (B1 o) hbox.1
     have q1:∀ o,(wr.alloc o).cell? ⟨w.heap.size+1,1,none⟩=_:=fun o=>zaa (B1 o) hbox.2.1
     have q2:∀ o,(wr.alloc o).cell? ⟨w.heap.size+1,2,none⟩=_:=fun o=>zaa (B1 o) hbox.2.2
     clear hbox
     cases hth:zbx t f.slots
     all_goals
      rw [hth] at hT
      go_wp2_with (go_at_call 108;refine (hT.out _ (hV.out _)).mono ?_;rintro e w1 ⟨rfl,hb1⟩)
     ·go_ret
      exact ⟨zac (by rw [HG.out,HD.out,List.all_cons,hth];rfl),hb.trans (((B1 _).trans (hb1.mono (by simp))).mono hb.size)⟩
     ·go_roundw
      case rel=>exact ⟨k+1,by omega,by go_num,by rw [HG.out,HD.out,List.all_cons,hth];rfl,HBX.out.below ((B1 _).trans (hb1.mono (by simp))),hb.trans (((B1 _).trans (hb1.mono (by simp))).mono hb.size)⟩
      case measure=>simp [intOf];omega
    ·go_wp2
     go_ret
     exact ⟨zac (by rw [HG.out,List.drop_eq_nil_of_le (by omega)];rfl),hb⟩
  ·have HN:Hid (passes x f=false):=zkf hn
   have hn':((f.slots.length:Int) != x.arity)=true:=by simp [hn]
   go_enter Tryz.func70,Tryz.ntmps70
   go_wp2
   go_ret
   exact ⟨zac HN.out.symm,B2 _ _⟩
 ·have HN:Hid (passes x f=false):=zkq hc
  go_enter Tryz.func70,Tryz.ntmps70
  go_wp2
  go_ret
  exact ⟨zac HN.out.symm,B2 _ _⟩
end Go.Proofs.YtmmdlgjmplddiaaGreat
namespace Go.Proofs.YtmmdlgjmplddiaaGreat
open Go.RowKit
attribute [local go_sem ↓] Go.wp_at_zero Go.wp_at_succ
set_option maxHeartbeats 400000 in
theorem zhi (x:Ru) (a_pats:Option Addr) (c_pats:Nat) (a_exprs:Option Addr) (c_exprs:Nat) (a_acts:Option Addr) (c_acts:Nat) (y:Ac) (a_args:Option Addr) (c_args:Nat) (pb nx:Nat) (S:List Sp) {q:Option Nat} (w0 w:World)
  (hb0:Below w0.heap.size w0 w) (h_exprs:zbw q w0 a_exprs x.exprs) (h_args:zas q w0 a_args y.args) (hS:Spans x.exprs S) (hSl:S.length=x.exprs.length) (hle:x.exprs.length≤60) (hcl:y.cls.size≤maxLen) (hal:y.args.length≤1048576)
  (hp:w.cell? ⟨pb,0,none⟩=some (.int .i64 (nx:Int))) (hf:w.frozen? ⟨pb,0,none⟩=false) (hpb:w0.heap.size≤pb) (hpw:pb<w.heap.size) (hnx:nx≤60) :
  Calls Tryz.prog 144 #[.agg #[.string x.name,.int .i64 x.sal,.slice a_pats x.pats.length c_pats,.slice a_exprs x.exprs.length c_exprs,.slice a_acts x.acts.length c_acts],.agg #[.int .i64 y.kind,.int .i64 y.k,.string y.cls,.slice a_args y.args.length c_args],.pointer (some ⟨pb,0,none⟩)] w fun e w'=>
   e=.returned (.bool (gAc S y nx).isSome)∧Below pb w w'∧(∀ nx',gAc S y nx=some nx'→nx'≤60∧w'.cell? ⟨pb,0,none⟩=some (.int .i64 (nx':Int)))∧w'.frozen? ⟨pb,0,none⟩=false:=by
 cases hok:(zay y && decide (y.args.length≤6))
 ·exact zht x a_pats c_pats a_exprs c_exprs a_acts c_acts y a_args c_args pb nx S w hcl hal hf hpw hok
 ·have hok':=hok
  simp only [Bool.and_eq_true,decide_eq_true_eq] at hok'
  obtain ⟨hfo,_⟩:=hok'
  have hk:y.kind=1∧gCls y.cls=true∧y.k=0∨y.kind=2∧y.cls.toList.isEmpty=true∧¬ y.k < -1000000∧¬ 1000000<y.k∧¬ (0:Int)<(y.args.length:Int)∨y.kind=3∧y.cls.toList.isEmpty=true∧¬ y.k < -1000000∧¬ 1000000<y.k∨y.kind=4∧y.cls.toList.isEmpty=true∧y.k=0∧¬ (0:Int)<(y.args.length:Int):=by
   unfold zay at hfo
   split at hfo
   ·rename_i h
    simp at h hfo
    exact .inl ⟨h,hfo.1,hfo.2⟩
   ·split at hfo
    ·rename_i h
     simp [isE,kOk] at h hfo
     exact .inr (.inl ⟨h,by simp [hfo.1.1],by omega,by omega,by simp [hfo.2]⟩)
    ·split at hfo
     ·rename_i h
      simp [isE,kOk] at h hfo
      exact .inr (.inr (.inl ⟨h,by simp [hfo.1],by omega,by omega⟩))
     ·split at hfo
      ·rename_i h
       simp [isE] at h hfo
       exact .inr (.inr (.inr ⟨h,by simp [hfo.1],hfo.2.1,by simp [hfo.2.2]⟩))
      ·cases hfo
  rcases hk with ⟨k1,hg,k0⟩ | ⟨k2,he,b1,b2,ha⟩ | ⟨k3,he,b1,b2⟩ | ⟨k4,he,k0,ha⟩
  ·exact zhm x a_pats c_pats a_exprs c_exprs a_acts c_acts y a_args c_args pb nx S w0 w hb0 h_exprs h_args hS hSl hle hcl hal hp hf hpb hpw hnx hok k1 hg k0
  ·exact zhh x a_pats c_pats a_exprs c_exprs a_acts c_acts y a_args c_args pb nx S w0 w hb0 h_exprs h_args hS hSl hle hcl hal hp hf hpb hpw hnx hok k2 he b1 b2 ha
  ·exact zgW x a_pats c_pats a_exprs c_exprs a_acts c_acts y a_args c_args pb nx S w0 w hb0 h_exprs h_args hS hSl hle hcl hal hp hf hpb hpw hnx hok k3 he b1 b2
  ·exact zhe x a_pats c_pats a_exprs c_exprs a_acts c_acts y a_args c_args pb nx S w0 w hb0 h_exprs h_args hS hSl hle hcl hal hp hf hpb hpw hnx hok k4 he k0 ha
end Go.Proofs.YtmmdlgjmplddiaaGreat
namespace Go.Proofs.YtmmdlgjmplddiaaGreat
open Go.RowKit Go.Maps
attribute [local go_sem ↓] Go.wp_at_zero Go.wp_at_succ
def ziA (v:Value):Option (DataW Unit × List MemPlace):=
 match v with
 | .agg a=>if a.size=0 then some (.lit (.bool true),[]) else none
 | _=>none
theorem zlQ {v:Value}{z:DataW Unit × List MemPlace} (h:ziA v=some z):v=.agg #[]:=by
 unfold ziA at h
 split at h
 ·rename_i a
  split at h
  ·rename_i h0
   rw [Array.eq_empty_of_size_eq_zero h0]
  ·cases h
 ·cases h
theorem lawS:Keyed Tryz.prog 9:=string_keyed Tryz.underlying9
def NInv (known:List ByteArray) (D:DataW Unit):Prop:=∀ s:ByteArray,s.size≤maxLen→has D (.string s.data.toList)=memB s known
theorem NInv.start:NInv [] (.map []):=fun _ _=>rfl
theorem zly (s v:ByteArray) (known:List ByteArray):memB s (known ++ [v])=(memB s known || decide (v=s)):=by
 simp [memB,List.any_append]
theorem NInv.put {known:List ByteArray}{D:DataW Unit}{v:ByteArray} (h:NInv known D) (hm:IsMap D) (d:DataW Unit):NInv (known ++ [v]) (D.put (.string v.data.toList) d):=by
 intro s hs
 rw [zly]
 by_cases he:v=s
 ·subst he
  rw [has_put_same hm (k:=.string v.data.toList) trivial d,decide_eq_true rfl,Bool.or_true]
 ·rw [has_put_other (fun e=>he (by injection e with e;exact (Go.WideShapes.bytes_inj e).symm)) d,h s hs,decide_eq_false he,Bool.or_false]
abbrev NMap (w:World) (b n:Nat) (D:DataW Unit):Prop:=w.ownsMap Tryz.prog 9 ziA b n D
theorem zpE (w:World):(zeroValue 250).run Tryz.prog w=.ok (.agg #[]) w:=by kernel_rfl
theorem zlx {w:World}{b n:Nat}{D:DataW Unit}{known:List ByteArray} (h:NMap w b n D) (hI:NInv known D) {s:ByteArray} (hs:s.size≤maxLen) :
  (Instr.lookup 226 (.map (some b)) (.string s) true).run Tryz.prog w=.ok (.tuple #[.agg #[],.bool (memB s known)]) w:=by
 obtain ⟨v,ps,hrun,hv⟩:=h.look_ok lawS (t:=226) Tryz.underlying226 (zpE w) (show ziA (.agg #[])=some (.lit (.bool true),[]) from rfl) (Go.WideMaps.keyOf_string_mk Tryz.underlying9 hs)
 rw [hrun,hI s hs,zlQ hv]
set_option maxHeartbeats 400000 in
theorem znn (b n:Nat) (D:DataW Unit) (known:List ByteArray) (s:ByteArray) (w:World) (h:NMap w b n D) (hI:NInv known D) (hs:s.size≤maxLen) :
  Calls Tryz.prog 154 #[.map (some b),.string s] w fun e w'=>e=.returned (.bool (memB s known))∧Below w.heap.size w w':=by
 have hl:=zlx h hI hs
 go_enter Tryz.func154,Tryz.ntmps154
 go_wp2
 go_ret
 exact ⟨rfl,(Below.refl _ _).alloc (Nat.le_refl _) _⟩
theorem zgZ (b n:Nat) (D:DataW Unit) (known:List ByteArray) (s:ByteArray) (hI:NInv known D) (hs:s.size≤maxLen):Hid (∀ w,NMap w b n D→Calls Tryz.prog 154 #[.map (some b),.string s] w fun e w'=>e=.returned (.bool (memB s known))∧Below w.heap.size w w'):=
 fun w h=>znn b n D known s w h hI hs
set_option maxHeartbeats 800000 in
theorem zmj (b n:Nat) (D:DataW Unit) (known:List ByteArray) (a:Option Addr) (c:Nat) (es:List Ex) (w:World) {q:Option Nat} (h:NMap w b n D) (hI:NInv known D) (hv:zbw q w a es) (hl:es.length≤1048576) (hs:∀ e∈es,e.var.size≤maxLen) :
  Calls Tryz.prog 133 #[.map (some b),.slice a es.length c] w fun e w'=>e=.returned (.bool (es.all (za8 known)))∧Below w.heap.size w w':=by
 go_enter Tryz.func133,Tryz.ntmps133
 go_wp2
 go_loopw [9] (fun i wr=>∃ (k:Nat),k≤es.length∧i=.int .i64 k∧es.all (za8 known)=(es.drop k).all (za8 known)∧Below w.heap.size w wr) (fun i _=>es.length - (intOf i).toNat)
 case atStart=>exact ⟨0,by omega,rfl,rfl,Below.refl _ _⟩
 case round=>
  obtain ⟨k,hk,rfl,hG,hb⟩:=hrel
  have HG:Hid (es.all (za8 known)=(es.drop k).all (za8 known)):=hG
  clear hG
  by_cases hkl:k<es.length
  ·obtain ⟨e,hek⟩:∃ e,es[k]?=some e:=⟨es[k],by simp [hkl]⟩
   obtain ⟨b',o,rfl,hq,c0,c1,c2,c3,c4,c5,c6,c7⟩:=(hv.below hb).get hek
   have HD:Hid (es.drop k=e :: es.drop (k+1)):=zak hek
   have hse:=hs e (List.mem_of_getElem? hek)
   have hbl:=h.lt
   have HM:Hid (NMap wr b n D):=show NMap wr b n D from by
    obtain ⟨m1,m2,m3,m4⟩:=h
    exact ⟨m1,m2,(hb.block b hbl).trans m3,m4⟩
   have B1:∀ o,Below w.heap.size w (wr.alloc o):=fun o=>hb.alloc hb.size _
   cases k1:(e.kind==1)
   ·have HK:Hid (za8 known e=true):=show za8 known e=true from by simp [za8,k1]
    go_wp2
    go_roundw
    case rel=>exact ⟨k+1,by omega,by go_num,by rw [HG.out,HD.out,List.all_cons,HK.out];rfl,B1 _⟩
    case measure=>simp [intOf];omega
   ·have HK:Hid (za8 known e=memB e.var known):=show za8 known e=_ from by simp [za8,k1]
    cases hm:memB e.var known
    all_goals
     have hH:=zgZ b n D known e.var hI hse
     rw [hm] at hH
     go_wp2_with (go_at_call 154;refine (hH.out _ (HM.out.alloc _)).mono ?_;rintro e' w1 ⟨rfl,hb1⟩)
    ·go_ret
     exact ⟨zac (by rw [HG.out,HD.out,List.all_cons,HK.out,hm];rfl),(B1 _).trans (hb1.mono (B1 _).size)⟩
    ·go_roundw
     case rel=>exact ⟨k+1,by omega,by go_num,by rw [HG.out,HD.out,List.all_cons,HK.out,hm];rfl,(B1 _).trans (hb1.mono (B1 _).size)⟩
     case measure=>simp [intOf];omega
  ·go_wp2
   go_ret
   exact ⟨zac (by rw [HG.out,List.drop_eq_nil_of_le (by omega)];rfl),hb⟩
end Go.Proofs.YtmmdlgjmplddiaaGreat
