/-
  OUR OWN TEXT. Ap1, Pg1, Ap2, Mm0, Ap1b, one behind the other.
-/
import Derived.Test.YtmmdlgjmplddiaaGreatKai
import Derived.Test.YtmmdlgjmplddiaaGreatKaq
import Derived.Test.YtmmdlgjmplddiaaGreatSym
import Derived.Test.YtmmdlgjmplddiaaGreatKas
import Derived.Test.YtmmdlgjmplddiaaGreatKag
import Derived.Deep.RegionHeld3
import Derived.Deep.DeepCutAuto
import Derived.Deep.DrawnRows
namespace Go.Proofs.YtmmdlgjmplddiaaGreat
open Go.RowKit
theorem hidA {p:Prop} (h:p):Hid p:=h
def eqV (v o:V):Bool:=v.kind==o.kind && (v.num==o.num && decide (v.sym.toList=o.sym.toList))
def numV (v o:V):Bool:=v.kind==0 && o.kind==0
def meets (op:Int) (v o:V):Bool:=
 if op==1 then eqV v o
 else if op==2 then !eqV v o
 else if op==3 then numV v o && decide (v.num<o.num)
 else if op==4 then numV v o && decide (o.num<v.num)
 else if op==5 then numV v o && decide (v.num≤o.num)
 else if op==6 then numV v o && decide (o.num≤v.num)
 else false
set_option maxHeartbeats 3200000 in
theorem zfj (v o:V) (op:Int) (w:World) :
  Calls Tryz.prog 97 #[.agg #[.int .i64 v.kind,.int .i64 v.num,.string v.sym],.int .i64 op,.agg #[.int .i64 o.kind,.int .i64 o.num,.string o.sym]] w fun e w'=>
   e=.returned (.bool (meets op v o))∧Below w.heap.size w w':=by
 have B2:∀ o o1,Below w.heap.size w ((w.alloc o).alloc o1):=fun o o1=>((Below.refl _ _).alloc (Nat.le_refl _) _).alloc (by simp) _
 by_cases h1:op=1
 ·subst h1
  cases k1:(v.kind==0) <;> cases k2:(o.kind==0)
  all_goals
   go_enter Tryz.func97,Tryz.ntmps97
   go_wp2
  all_goals go_ret
  all_goals exact ⟨zac (by simp [meets,eqV, *]),B2 _ _⟩
 by_cases h2:op=2
 ·subst h2
  cases k1:(v.kind==0) <;> cases k2:(o.kind==0)
  all_goals
   go_enter Tryz.func97,Tryz.ntmps97
   go_wp2
  all_goals go_ret
  all_goals exact ⟨zac (by simp [meets,eqV, *]),B2 _ _⟩
 by_cases h3:op=3
 ·subst h3
  cases k1:(v.kind==0) <;> cases k2:(o.kind==0)
  all_goals
   go_enter Tryz.func97,Tryz.ntmps97
   go_wp2
  all_goals go_ret
  all_goals exact ⟨zac (by simp [meets,numV, *]),B2 _ _⟩
 by_cases h4:op=4
 ·subst h4
  cases k1:(v.kind==0) <;> cases k2:(o.kind==0)
  all_goals
   go_enter Tryz.func97,Tryz.ntmps97
   go_wp2
  all_goals go_ret
  all_goals exact ⟨zac (by simp [meets,numV, *]),B2 _ _⟩
 by_cases h5:op=5
 ·subst h5
  cases k1:(v.kind==0) <;> cases k2:(o.kind==0)
  all_goals
   go_enter Tryz.func97,Tryz.ntmps97
   go_wp2
  all_goals go_ret
  all_goals exact ⟨zac (by simp [meets,numV, *]),B2 _ _⟩
 by_cases h6:op=6
 ·subst h6
  cases k1:(v.kind==0) <;> cases k2:(o.kind==0)
  all_goals
   go_enter Tryz.func97,Tryz.ntmps97
   go_wp2
  all_goals go_ret
  all_goals exact ⟨zac (by simp [meets,numV, *]),B2 _ _⟩
 cases k1:(v.kind==0) <;> cases k2:(o.kind==0)
 all_goals
  go_enter Tryz.func97,Tryz.ntmps97
  go_wp2
 all_goals go_ret
 all_goals exact ⟨zac (by simp [meets, *]),B2 _ _⟩
end Go.Proofs.YtmmdlgjmplddiaaGreat
namespace Go.Proofs.YtmmdlgjmplddiaaGreat
open Go.RowKit
attribute [local go_sem ↓] Go.wp_at_zero Go.wp_at_succ
theorem hidP {p:Prop} (h:p):Hid p:=h
def zcG (w:World) (v:Value) (f:F):Prop:=
 ∃ b o,v=.pointer (some ⟨b,o,none⟩)∧w.cell? ⟨b,o,none⟩=some (.int .i64 f.tag)∧w.cell? ⟨b,o+1,none⟩=some (.string f.cls)∧∃ a c,w.cell? ⟨b,o+2,none⟩=some (.slice a f.slots.length c)∧zaV w a f.slots
theorem zcG.below {w w':World}{v:Value}{f:F} (h:zcG w v f) (hb:Below w.heap.size w w'):zcG w' v f:=by
 obtain ⟨b,o,e,h0,h1,a,c,h2,h3⟩:=h
 exact ⟨b,o,e,zaa hb h0,zaa hb h1,a,c,zaa hb h2,h3.below hb⟩
theorem znv {w:World}{b o:Nat}{x:Value} (h:w.cell? ⟨b,o,none⟩=some x):b<w.heap.size:=by
 by_cases hp:b<w.heap.size
 ·exact hp
 ·have:w.heap[b]?=none:=Array.getElem?_eq_none (by omega)
  simp [World.cell?,this] at h
theorem lift3P {P:World→Prop}{w:World}{o1 o2 o3:Obj} (h:∀ wt,Below w.heap.size w wt→wt.heap[w.heap.size]?=some o1→wt.heap[w.heap.size+1]?=some o2→wt.heap[w.heap.size+2]?=some o3→P wt):P (((w.alloc o1).alloc o2).alloc o3):=by
 refine h _ ((((Below.refl _ _).alloc (Nat.le_refl _) _).alloc (by simp) _).alloc (by simp;omega) _) ?_ ?_ ?_
 ·exact (Below.heap_alloc _ _ _ (by simp;omega)).trans ((Below.heap_alloc _ _ _ (by simp)).trans (heap_alloc_new _ _))
 ·exact (Below.heap_alloc _ _ _ (by simp)).trans (by have:=heap_alloc_new (w.alloc o1) o2;simpa using this)
 ·have:=heap_alloc_new ((w.alloc o1).alloc o2) o3
  simpa using this
set_option maxHeartbeats 3200000 in
theorem zkp (p0 p1 p2 pv:Value) (i s:Nat) (f:F) (v:V) (w:World) (hp:[p0,p1,p2][i]?=some pv) (hF:zcG w pv f) (hv:f.slots[s]?=some v) :
  Calls Tryz.prog 98 #[.agg #[p0,p1,p2],.agg #[.int .i64 (i:Int),.int .i64 (s:Int)]] w fun e w'=>e=.returned (.agg #[.int .i64 v.kind,.int .i64 v.num,.string v.sym])∧Below w.heap.size w w':=by
 have hi3:i<3:=by
  by_cases h:i<3
  ·exact h
  ·rw [List.getElem?_eq_none (by simp;omega)] at hp
   cases hp
 obtain ⟨b,o,rfl,h0,h1,a,c,h2,h3⟩:=hF
 obtain ⟨vb,vo,rfl,u0,u1,u2⟩:=h3 s v hv
 have hsl:s<f.slots.length:=(List.getElem?_eq_some_iff.1 hv).1
 go_enter Tryz.func98,Tryz.ntmps98
 go_upto_region 1 with fail
 refine lift3P ?_
 intro w0 hW0 hq0 hq1 hq2
 have t0:w0.cell? ⟨w.heap.size,i,none⟩=some (.pointer (some ⟨b,o,none⟩)):=by
  rcases i with _ | _ | _ | i
  ·simp at hp;subst hp;simp [World.cell?,hq0]
  ·simp at hp;subst hp;simp [World.cell?,hq0]
  ·simp at hp;subst hp;simp [World.cell?,hq0]
  ·omega
 have t1:w0.cell? ⟨w.heap.size+1,0,none⟩=some (.int .i64 (i:Int)):=by simp [World.cell?,hq1]
 have t2:w0.cell? ⟨w.heap.size+1,1,none⟩=some (.int .i64 (s:Int)):=by simp [World.cell?,hq1]
 have x0:w0.cell? ⟨w.heap.size+2,0,none⟩=some (.int .i64 0):=by simp [World.cell?,hq2]
 have x1:w0.cell? ⟨w.heap.size+2,1,none⟩=some (.int .i64 0):=by simp [World.cell?,hq2]
 have x2:w0.cell? ⟨w.heap.size+2,2,none⟩=some (.string ⟨#[]⟩):=by simp [World.cell?,hq2]
 have z0:w0.frozen? ⟨w.heap.size+2,0,none⟩=false:=by simp [World.frozen?,hq2]
 have z1:w0.frozen? ⟨w.heap.size+2,1,none⟩=false:=by simp [World.frozen?,hq2]
 have z2:w0.frozen? ⟨w.heap.size+2,2,none⟩=false:=by simp [World.frozen?,hq2]
 have g2:=zaa hW0 h2
 have v0:=zaa hW0 u0
 have v1:=zaa hW0 u1
 have v2:=zaa hW0 u2
 have k0:(0:Int)≤(i:Int):=by omega
 have k1:(i:Int)<3:=by omega
 have k2:(0:Int)≤(s:Int):=by omega
 have k3:(s:Int)<(f.slots.length:Int):=by omega
 have B0:=hidP hW0
 have Q2:=hidP hq2
 have hl2:w.heap.size+2<w0.heap.size:=zab hq2
 clear hW0 hq0 hq1 hq2 h0 h1 h2 h3 u0 u1 u2 hv hp
 go_wp2_with fail
 go_region
 go_wp2_with fail
 refine bodyPost_ret (v:=.agg #[.int .i64 v.kind,.int .i64 v.num,.string v.sym]) (by simp [results,Tryz.results98,go_sem,x0,x1,x2]) rfl ⟨rfl,?_⟩
 exact (((B0.out.setCell (by simp;omega) _).setCell (by simp;omega) _).setCell (by simp;omega) _).drew
structure Jt where
 slot:Nat
 op:Int
 fact:Nat
 at_:Nat
def zcr (t:Jt):List Value:=[.int .i64 (t.slot:Int),.int .i64 t.op,.int .i64 (t.fact:Int),.int .i64 (t.at_:Int)]
def zd2 (w:World) (a:Option Addr) (ts:List Jt):Prop:=
 ∀ (i:Nat) (t:Jt),ts[i]?=some t→∃ b o,a=some ⟨b,o,none⟩∧w.cell? ⟨b,o+i * 4,none⟩=some (.int .i64 (t.slot:Int))∧w.cell? ⟨b,o+i * 4+1,none⟩=some (.int .i64 t.op)∧w.cell? ⟨b,o+i * 4+2,none⟩=some (.int .i64 (t.fact:Int))∧w.cell? ⟨b,o+i * 4+3,none⟩=some (.int .i64 (t.at_:Int))
theorem zd2.below {w w':World}{a:Option Addr}{ts:List Jt} (h:zd2 w a ts) (hb:Below w.heap.size w w'):zd2 w' a ts:=by
 intro i t hi
 obtain ⟨b,o,e,h0,h1,h2,h3⟩:=h i t hi
 exact ⟨b,o,e,zaa hb h0,zaa hb h1,zaa hb h2,zaa hb h3⟩
def zeS (w:World) (p0 p1 p2:Value) (T:List F):Prop:=∀ (i:Nat) (f:F),T[i]?=some f→∃ pv,[p0,p1,p2][i]?=some pv∧zcG w pv f
theorem zeS.below {w w':World}{p0 p1 p2:Value}{T:List F} (h:zeS w p0 p1 p2 T) (hb:Below w.heap.size w w'):zeS w' p0 p1 p2 T:=by
 intro i f hi
 obtain ⟨pv,h1,h2⟩:=h i f hi
 exact ⟨pv,h1,h2.below hb⟩
def Jt.fits (t:Jt) (T:List F) (f:F):Prop:=t.slot<f.slots.length∧∃ g,T[t.fact]?=some g∧t.at_<g.slots.length
def zaK (T:List F) (f:F) (t:Jt):Bool:=meets t.op (f.slots[t.slot]?.getD (0,0,⟨#[]⟩)) (((T[t.fact]?.map (·.slots)).getD [])[t.at_]?.getD (0,0,⟨#[]⟩))
theorem zlL {T:List F}{f g:F}{t:Jt}{v u:V} (h1:f.slots[t.slot]?=some v) (h2:T[t.fact]?=some g) (h3:g.slots[t.at_]?=some u):zaK T f t=meets t.op v u:=by
 unfold zaK
 rw [h1,h2]
 simp [h3]
theorem lift2P {P:World→Prop}{w:World}{o1 o2:Obj} (h:∀ wt,Below w.heap.size w wt→wt.heap[w.heap.size]?=some o1→wt.heap[w.heap.size+1]?=some o2→P wt):P ((w.alloc o1).alloc o2):=
 h _ (((Below.refl _ _).alloc (Nat.le_refl _) _).alloc (by simp) _) ((Below.heap_alloc _ _ _ (by simp)).trans (heap_alloc_new _ _)) (by have:=heap_alloc_new (w.alloc o1) o2;simpa using this)
theorem cells4P {w:World}{b:Nat}{ty:TypeId}{x0 x1 x2 x3:Value} (h:w.heap[b]?=some (.cells #[x0,x1,x2,x3] ty (0,0))):w.cell? ⟨b,0,none⟩=some x0∧w.cell? ⟨b,1,none⟩=some x1∧w.cell? ⟨b,2,none⟩=some x2∧w.cell? ⟨b,3,none⟩=some x3:=by
 refine ⟨?_,?_,?_,?_⟩ <;> simp [World.cell?,h]
theorem cells3P {w:World}{b:Nat}{ty:TypeId}{x0 x1 x2:Value} (h:w.heap[b]?=some (.cells #[x0,x1,x2] ty (0,0))):w.cell? ⟨b,0,none⟩=some x0∧w.cell? ⟨b,1,none⟩=some x1∧w.cell? ⟨b,2,none⟩=some x2:=by
 refine ⟨?_,?_,?_⟩ <;> simp [World.cell?,h]
set_option maxRecDepth 100000 in
set_option maxHeartbeats 6400000 in
theorem zgI (ng ct nd p0 p1 p2 pf:Value) (ts:List Jt) (ta:Option Addr) (tc:Nat) (T:List F) (f:F) (w:World) (h_t:zd2 w ta ts) (h_T:zeS w p0 p1 p2 T) (h_f:zcG w pf f) (hl:ts.length≤1048576) (hfit:∀ t∈ts,t.fits T f) :
  Calls Tryz.prog 59 #[.agg #[ng,ct,nd,.slice ta ts.length tc],.agg #[p0,p1,p2],pf] w fun e w'=>e=.returned (.bool (ts.all (zaK T f)))∧Below w.heap.size w w':=by
 have HJ:=hidP h_t
 have HT:=hidP h_T
 have HF:=hidP h_f
 have HFI:=hidP hfit
 clear h_t h_T h_f hfit
 go_enter Tryz.func59,Tryz.ntmps59
 go_upto_region 1 with fail
 refine lift2P ?_
 intro w0 hW0 hq0 hq1
 obtain ⟨_,_,_,c3⟩:=cells4P hq0
 obtain ⟨t0,t1,t2⟩:=cells3P hq1
 have H0:=hidP hW0
 have hl0:w.heap.size+1<w0.heap.size:=zab hq1
 clear hW0 hq0 hq1
 go_wp2_with fail
 go_loopw [12] (fun iv wr=>∃ (k:Nat),iv=.int .i64 (k:Int)∧k≤ts.length∧ts.all (zaK T f)=(ts.drop k).all (zaK T f)∧Below w0.heap.size w0 wr) (fun iv _=>ts.length - (intOf iv).toNat)
 case atStart=>exact ⟨0,rfl,Nat.zero_le _,rfl,Below.refl _ _⟩
 case round=>
  obtain ⟨k,rfl,hkl,hG,hb⟩:=hrel
  have HG:=hidP hG
  have HBB:=hidP hb
  have HBW:=hidP (H0.out.trans (hb.mono H0.out.size))
  have hsr:=hb.size
  clear hG hb
  by_cases hk:k<ts.length
  ·obtain ⟨t,ht⟩:∃ t,ts[k]?=some t:=⟨ts[k],by simp [hk]⟩
   obtain ⟨jb,jo,rfl,j0,j1,j2,j3⟩:=(HJ.out.below HBW.out) k t ht
   obtain ⟨hsl,g,hg,hat⟩:=HFI.out t (List.mem_of_getElem? ht)
   obtain ⟨v,hv⟩:∃ v,f.slots[t.slot]?=some v:=⟨f.slots[t.slot],by simp [hsl]⟩
   obtain ⟨u,hu⟩:∃ u,g.slots[t.at_]?=some u:=⟨g.slots[t.at_],by simp [hat]⟩
   obtain ⟨pv,hpv,hpf⟩:=HT.out _ g hg
   have HD:=hidP (show ts.all (zaK T f)=(meets t.op v u && (ts.drop (k+1)).all (zaK T f)) by rw [HG.out,zak ht,List.all_cons,zlL hv hg hu])
   have HVAL:=hidP (fun w' (h:Below w.heap.size w w')=>zkp p0 p1 p2 pv t.fact t.at_ g u w' hpv (hpf.below h) hu)
   have HME:=hidP (fun w'=>zfj v u t.op w')
   obtain ⟨fb,fo,rfl,s0,s1,fa,fc,s2,hsv⟩:=HF.out
   obtain ⟨vb,vo,rfl,y0,y1,y2⟩:=hsv _ v hv
   have r0:=zaa HBB.out t0
   have r1:=zaa HBB.out t1
   have r2:=zaa HBB.out t2
   have g2:=zaa HBW.out s2
   have v0:=zaa HBW.out y0
   have v1:=zaa HBW.out y1
   have v2:=zaa HBW.out y2
   have z0:(0:Int)≤(k:Int):=by omega
   have z1:(k:Int)<(ts.length:Int):=by omega
   have z2:(0:Int)≤(t.slot:Int):=by omega
   have z3:(t.slot:Int)<(f.slots.length:Int):=by omega
   clear ht hv hu hpv hpf hg HG s0 s1 s2 hsv y0 y1 y2 hat
   go_upto_region 4 with fail
   refine zaj ?_
   intro w2 hW2 hq2
   obtain ⟨d0,d1,d2,d3⟩:=cells4P hq2
   have q0:=zaa hW2 r0
   have q1:=zaa hW2 r1
   have q2:=zaa hW2 r2
   have e2:=zaa hW2 g2
   have x0:=zaa hW2 v0
   have x1:=zaa hW2 v1
   have x2:=zaa hW2 v2
   have D2:=hidP (HBB.out.trans (hW2.mono HBB.out.size))
   have W2:=hidP (HBW.out.trans (hW2.mono HBW.out.size))
   have hs2:=hW2.size
   clear hW2 hq2 r0 r1 r2 g2 v0 v1 v2 j0 j1 j2 j3 HBB HBW
   cases hm:meets t.op v u
   ·have HN:=hidP (show ts.all (zaK T f)=false by rw [HD.out,hm];rfl)
    rw [hm] at HME
    clear hm HD
    go_wp2_with fail
    go_region_held3 (fun w'=>w'.cell? ⟨wr.heap.size,0,none⟩=some (.int .i64 (t.slot:Int))∧w'.cell? ⟨wr.heap.size,1,none⟩=some (.int .i64 t.op)∧w'.cell? ⟨wr.heap.size,2,none⟩=some (.int .i64 (t.fact:Int))∧w'.cell? ⟨wr.heap.size,3,none⟩=some (.int .i64 (t.at_:Int))∧w'.cell? ⟨w.heap.size+1,0,none⟩=some p0∧w'.cell? ⟨w.heap.size+1,1,none⟩=some p1∧w'.cell? ⟨w.heap.size+1,2,none⟩=some p2∧w'.cell? ⟨fb,fo+2,none⟩=some (.slice (some ⟨vb,vo,none⟩) f.slots.length fc)∧w'.cell? ⟨vb,vo+t.slot * 3,none⟩=some (.int .i64 v.kind)∧w'.cell? ⟨vb,vo+t.slot * 3+1,none⟩=some (.int .i64 v.num)∧w'.cell? ⟨vb,vo+t.slot * 3+2,none⟩=some (.string v.sym)∧Below w0.heap.size w0 w'∧w2.heap.size≤w'.heap.size) ((go_split_ands;refine ⟨?_,?_,?_,?_,?_,?_,?_,?_,?_,?_,?_,?_,?_⟩ <;> first | (simp [*];done) | exact D2.out.drew | exact zaa hb' (by assumption) | exact Below.trans (by assumption) (Below.mono hb' (by omega)) | omega)) (first | (go_at_call 98;refine (HVAL.out _ (by first | exact W2.out.drew | exact W2.out | exact H0.out.trans (Below.mono (by assumption) H0.out.size))).mono ?_;rintro e w' ⟨rfl,hb'⟩;have hsz':=hb'.size) | (go_at_call 97;refine (HME.out _).mono ?_;rintro e w' ⟨rfl,hb'⟩;have hsz':=hb'.size) | fail)
    rename_i hh
    have D9:=hidP hh.2.2.2.2.2.2.2.2.2.2.2.1
    clear hh
    go_wp2_with fail
    go_ret
    exact ⟨zac HN.out.symm,H0.out.trans (D9.out.mono H0.out.size)⟩
   ·have HN:=hidP (show ts.all (zaK T f)=(ts.drop (k+1)).all (zaK T f) by rw [HD.out,hm];rfl)
    rw [hm] at HME
    clear hm HD
    go_wp2_with fail
    go_region_held3 (fun w'=>w'.cell? ⟨wr.heap.size,0,none⟩=some (.int .i64 (t.slot:Int))∧w'.cell? ⟨wr.heap.size,1,none⟩=some (.int .i64 t.op)∧w'.cell? ⟨wr.heap.size,2,none⟩=some (.int .i64 (t.fact:Int))∧w'.cell? ⟨wr.heap.size,3,none⟩=some (.int .i64 (t.at_:Int))∧w'.cell? ⟨w.heap.size+1,0,none⟩=some p0∧w'.cell? ⟨w.heap.size+1,1,none⟩=some p1∧w'.cell? ⟨w.heap.size+1,2,none⟩=some p2∧w'.cell? ⟨fb,fo+2,none⟩=some (.slice (some ⟨vb,vo,none⟩) f.slots.length fc)∧w'.cell? ⟨vb,vo+t.slot * 3,none⟩=some (.int .i64 v.kind)∧w'.cell? ⟨vb,vo+t.slot * 3+1,none⟩=some (.int .i64 v.num)∧w'.cell? ⟨vb,vo+t.slot * 3+2,none⟩=some (.string v.sym)∧Below w0.heap.size w0 w'∧w2.heap.size≤w'.heap.size) ((go_split_ands;refine ⟨?_,?_,?_,?_,?_,?_,?_,?_,?_,?_,?_,?_,?_⟩ <;> first | (simp [*];done) | exact D2.out.drew | exact zaa hb' (by assumption) | exact Below.trans (by assumption) (Below.mono hb' (by omega)) | omega)) (first | (go_at_call 98;refine (HVAL.out _ (by first | exact W2.out.drew | exact W2.out | exact H0.out.trans (Below.mono (by assumption) H0.out.size))).mono ?_;rintro e w' ⟨rfl,hb'⟩;have hsz':=hb'.size) | (go_at_call 97;refine (HME.out _).mono ?_;rintro e w' ⟨rfl,hb'⟩;have hsz':=hb'.size) | fail)
    rename_i hh
    have D9:=hidP hh.2.2.2.2.2.2.2.2.2.2.2.1
    clear hh
    go_wp2_with fail
    go_roundw
    case rel=>exact ⟨k+1,by go_num,by omega,HN.out,D9.out⟩
    case measure=>(simp [intOf];omega)
  ·have hke:k=ts.length:=by omega
   subst hke
   have HN:=hidP (show ts.all (zaK T f)=true by rw [HG.out,List.drop_eq_nil_of_le (Nat.le_refl _)];rfl)
   have hy:¬ (ts.length:Int)<(ts.length:Int):=by omega
   go_wp2_with fail
   go_ret
   exact ⟨zac HN.out.symm,HBW.out⟩
end Go.Proofs.YtmmdlgjmplddiaaGreat
namespace Go.Proofs.YtmmdlgjmplddiaaGreat
open Go.RowKit
attribute [local go_sem ↓] Go.wp_at_zero Go.wp_at_succ
def inR (i:Int) (n:Nat):Bool:=decide (0≤i) && decide (i<(n:Int))
def getI (vs:List V) (i:Int):Option V:=if 0≤i then vs[i.toNat]? else none
def zbx (t:Tt) (vs:List V):Bool:=
 match getI vs t.slot with
 | none=>false
 | some v=>if t.other = -1 then meets t.op v t.val else match getI vs t.other with
  | none=>false
  | some o=>meets t.op v o
def passes (a:Al) (f:F):Bool:=decide (f.cls.toList=a.cls.toList) && (decide ((f.slots.length:Int)=a.arity) && a.tests.all (fun t=>zbx t f.slots))
theorem zjB {vs:List V}{i:Int} (h:inR i vs.length=false):getI vs i=none:=by
 unfold getI
 split
 ·rename_i h0
  simp [inR,h0] at h
  exact List.getElem?_eq_none (by omega)
 ·rfl
theorem zlG {vs:List V}{i:Int} (h:inR i vs.length=true):∃ (s:Nat) (v:V),i=(s:Int)∧s<vs.length∧vs[s]?=some v∧getI vs i=some v:=by
 simp only [inR,Bool.and_eq_true,decide_eq_true_eq] at h
 obtain ⟨s,rfl⟩:=Int.eq_ofNat_of_zero_le h.1
 have hs:s<vs.length:=by omega
 refine ⟨s,vs[s],rfl,hs,by simp,?_⟩
 unfold getI
 rw [if_pos h.1]
 simp
set_option maxHeartbeats 800000 in
theorem zmD (f:F) (a:Option Addr) (c:Nat) (i:Int) (w:World) :
  Calls Tryz.prog 139 #[.agg #[.int .i64 f.tag,.string f.cls,.slice a f.slots.length c],.int .i64 i] w fun e w'=>
   e=.returned (.bool (inR i f.slots.length))∧Below w.heap.size w w':=by
 have B1:∀ o,Below w.heap.size w (w.alloc o):=fun o=>(Below.refl _ _).alloc (Nat.le_refl _) _
 by_cases h0:0≤i
 ·go_enter Tryz.func139,Tryz.ntmps139
  go_wp2
  go_ret
  exact ⟨zac (by simp [inR,h0]),B1 _⟩
 ·go_enter Tryz.func139,Tryz.ntmps139
  go_wp2
  go_ret
  exact ⟨zac (by simp [inR];omega),B1 _⟩
set_option maxHeartbeats 3200000 in
theorem zj6 (t:Tt) (f:F) (a:Option Addr) (c:Nat) (w:World) (hv:zaV w a f.slots) :
  Calls Tryz.prog 108 #[.agg #[.int .i64 t.slot,.int .i64 t.op,.int .i64 t.other,.int .i64 t.val.kind,.int .i64 t.val.num,.string t.val.sym],.agg #[.int .i64 f.tag,.string f.cls,.slice a f.slots.length c]] w fun e w'=>
   e=.returned (.bool (zbx t f.slots))∧Below w.heap.size w w':=by
 have B2:∀ o o1,Below w.heap.size w ((w.alloc o).alloc o1):=fun o o1=>((Below.refl _ _).alloc (Nat.le_refl _) _).alloc (by simp) _
 have hH1:=hidA (fun w'=>zmD f a c t.slot w')
 cases hs:inR t.slot f.slots.length
 ·rw [hs] at hH1
  have HN:Hid (zbx t f.slots=false):=show zbx t f.slots=false from by simp [zbx,zjB hs]
  go_enter Tryz.func108,Tryz.ntmps108
  go_wp2_with (go_at_call 139;refine (hH1.out _).mono ?_;rintro e w1 ⟨rfl,hb1⟩)
  go_ret
  exact ⟨zac HN.out.symm,(B2 _ _).trans (hb1.mono (by simp;omega))⟩
 ·rw [hs] at hH1
  obtain ⟨s,v,es,hsl,hvs,hg⟩:=zlG hs
  obtain ⟨b,o,rfl,c0,c1,c2⟩:=hv s v hvs
  have z0:(0:Int)≤(s:Int):=by omega
  have z1:(s:Int)<(f.slots.length:Int):=by omega
  by_cases ho:t.other = -1
  ·have HN:Hid (zbx t f.slots=meets t.op v t.val):=show zbx t f.slots=_ from by simp [zbx,hg,ho]
   have hM:=hidA (fun w'=>zfj v t.val t.op w')
   rw [es,ho]
   rw [es] at hH1
   clear es hg hvs hv
   go_enter Tryz.func108,Tryz.ntmps108
   go_wp2_with (go_at_call 139;refine (hH1.out _).mono ?_;rintro e w1 ⟨rfl,hb1⟩;have p0:w1.cell? ⟨w.heap.size,0,none⟩=some (.int .i64 (s:Int)):=zaa hb1 (by simp [go_sem]);have p1:w1.cell? ⟨w.heap.size,1,none⟩=some (.int .i64 t.op):=zaa hb1 (by simp [go_sem]);have p2:w1.cell? ⟨w.heap.size,2,none⟩=some (.int .i64 (-1)):=zaa hb1 (by simp [go_sem]);have p3:w1.cell? ⟨w.heap.size,3,none⟩=some (.int .i64 t.val.kind):=zaa hb1 (by simp [go_sem]);have p4:w1.cell? ⟨w.heap.size,4,none⟩=some (.int .i64 t.val.num):=zaa hb1 (by simp [go_sem]);have p5:w1.cell? ⟨w.heap.size,5,none⟩=some (.string t.val.sym):=zaa hb1 (by simp [go_sem]);have f0:w1.cell? ⟨w.heap.size+1,0,none⟩=some (.int .i64 f.tag):=zaa hb1 (by simp [go_sem]);have f1:w1.cell? ⟨w.heap.size+1,1,none⟩=some (.string f.cls):=zaa hb1 (by simp [go_sem]);have f2:w1.cell? ⟨w.heap.size+1,2,none⟩=some (.slice (some ⟨b,o,none⟩) f.slots.length c):=zaa hb1 (by simp [go_sem]);have x0:=zaa hb1 (zaa (B2 _ _) c0);have x1:=zaa hb1 (zaa (B2 _ _) c1);have x2:=zaa hb1 (zaa (B2 _ _) c2))
   clear c0 c1 c2 ho hs hsl hH1
   first
   | (go_region_held3 (fun w'=>w'.cell? ⟨w.heap.size,0,none⟩=some (.int .i64 (s:Int))∧w'.cell? ⟨w.heap.size,1,none⟩=some (.int .i64 t.op)∧w'.cell? ⟨w.heap.size,2,none⟩=some (.int .i64 (-1))∧w'.cell? ⟨w.heap.size,3,none⟩=some (.int .i64 t.val.kind)∧w'.cell? ⟨w.heap.size,4,none⟩=some (.int .i64 t.val.num)∧w'.cell? ⟨w.heap.size,5,none⟩=some (.string t.val.sym)∧w'.cell? ⟨w.heap.size+1,0,none⟩=some (.int .i64 f.tag)∧w'.cell? ⟨w.heap.size+1,1,none⟩=some (.string f.cls)∧w'.cell? ⟨w.heap.size+1,2,none⟩=some (.slice (some ⟨b,o,none⟩) f.slots.length c)∧w'.cell? ⟨b,o+s * 3,none⟩=some (.int .i64 v.kind)∧w'.cell? ⟨b,o+s * 3+1,none⟩=some (.int .i64 v.num)∧w'.cell? ⟨b,o+s * 3+2,none⟩=some (.string v.sym)) ((go_split_ands;refine ⟨?_,?_,?_,?_,?_,?_,?_,?_,?_,?_,?_,?_⟩ <;> first | (simp [*];done) | exact zaa hb' (by assumption))) (first | (go_at_call 97;refine (hM.out _).mono ?_;rintro e w' ⟨rfl,hb'⟩) | fail))
   | fail
   go_wp2
   go_ret
   exact ⟨zac HN.out.symm,((B2 _ _).trans (hb1.mono (by simp;omega))).drew.trans (hb'.mono (by have:=(B2 default default).size;have:=hb1.size;simp at *;omega))⟩
  ·have hH2:=hidA (fun w'=>zmD f (some ⟨b,o,none⟩) c t.other w')
   cases hs2:inR t.other f.slots.length
   ·rw [hs2] at hH2
    have HN:Hid (zbx t f.slots=false):=show zbx t f.slots=_ from by simp [zbx,hg,ho,zjB hs2]
    rw [es]
    rw [es] at hH1
    clear es hg hvs hv
    go_enter Tryz.func108,Tryz.ntmps108
    go_wp2_with (go_at_call 139;refine (hH1.out _).mono ?_;rintro e w1 ⟨rfl,hb1⟩;have p0:w1.cell? ⟨w.heap.size,0,none⟩=some (.int .i64 (s:Int)):=zaa hb1 (by simp [go_sem]);have p1:w1.cell? ⟨w.heap.size,1,none⟩=some (.int .i64 t.op):=zaa hb1 (by simp [go_sem]);have p2:w1.cell? ⟨w.heap.size,2,none⟩=some (.int .i64 t.other):=zaa hb1 (by simp [go_sem]);have p3:w1.cell? ⟨w.heap.size,3,none⟩=some (.int .i64 t.val.kind):=zaa hb1 (by simp [go_sem]);have p4:w1.cell? ⟨w.heap.size,4,none⟩=some (.int .i64 t.val.num):=zaa hb1 (by simp [go_sem]);have p5:w1.cell? ⟨w.heap.size,5,none⟩=some (.string t.val.sym):=zaa hb1 (by simp [go_sem]);have f0:w1.cell? ⟨w.heap.size+1,0,none⟩=some (.int .i64 f.tag):=zaa hb1 (by simp [go_sem]);have f1:w1.cell? ⟨w.heap.size+1,1,none⟩=some (.string f.cls):=zaa hb1 (by simp [go_sem]);have f2:w1.cell? ⟨w.heap.size+1,2,none⟩=some (.slice (some ⟨b,o,none⟩) f.slots.length c):=zaa hb1 (by simp [go_sem]);have x0:=zaa hb1 (zaa (B2 _ _) c0);have x1:=zaa hb1 (zaa (B2 _ _) c1);have x2:=zaa hb1 (zaa (B2 _ _) c2))
    clear c0 c1 c2 ho hs hs2 hsl hH1
    refine wp_region_noPanic ?_
    refine wp_region_held_drew (S:=(fun w'=>w'.cell? ⟨w.heap.size,0,none⟩=some (.int .i64 (s:Int))∧w'.cell? ⟨w.heap.size,1,none⟩=some (.int .i64 t.op)∧w'.cell? ⟨w.heap.size,2,none⟩=some (.int .i64 t.other)∧w'.cell? ⟨w.heap.size,3,none⟩=some (.int .i64 t.val.kind)∧w'.cell? ⟨w.heap.size,4,none⟩=some (.int .i64 t.val.num)∧w'.cell? ⟨w.heap.size,5,none⟩=some (.string t.val.sym)∧w'.cell? ⟨w.heap.size+1,0,none⟩=some (.int .i64 f.tag)∧w'.cell? ⟨w.heap.size+1,1,none⟩=some (.string f.cls)∧w'.cell? ⟨w.heap.size+1,2,none⟩=some (.slice (some ⟨b,o,none⟩) f.slots.length c)∧w'.cell? ⟨b,o+s * 3,none⟩=some (.int .i64 v.kind)∧w'.cell? ⟨b,o+s * 3+1,none⟩=some (.int .i64 v.num)∧w'.cell? ⟨b,o+s * 3+2,none⟩=some (.string v.sym))) (by kernel_rfl) ?_ (fun hHeld=>?_)
    ·(try dsimp only)
     (go_split_ands;refine ⟨?_,?_,?_,?_,?_,?_,?_,?_,?_,?_,?_,?_⟩ <;> first | (simp [*];done) | exact zaa hb' (by assumption))
    refine wpAnyH_take (i:=0) (oi:=?oi1) (v:=?v1) ?hi1 (by kernel_rfl) (by kernel_rfl) (by kernel_rfl) (fun _ _ _ h=>h) (Or.inl ⟨?wd1,?hy1⟩) hHeld ?rest1
    case hi1=>(simp only [List.getElem?_toArray,List.getElem?_cons_zero];rfl)
    case wd1=>rfl
    case hy1=>(intro w hSw;(try dsimp only at hSw);go_simp;try with_reducible rfl)
    (try simp only [Act.put,List.setIfInBounds_toArray,List.set_cons_zero,List.set_cons_succ])
    refine wpAnyH_take (i:=1) (oi:=?oi2) (v:=?v2) ?hi2 (by kernel_rfl) (by kernel_rfl) (by kernel_rfl) (fun _ _ _ h=>h) (Or.inl ⟨?wd2,?hy2⟩) hHeld ?rest2
    case hi2=>(simp only [List.getElem?_toArray,List.getElem?_cons_succ,List.getElem?_cons_zero];rfl)
    case wd2=>rfl
    case hy2=>(intro w hSw;(try dsimp only at hSw);go_simp;try with_reducible rfl)
    (try simp only [Act.put,List.setIfInBounds_toArray,List.set_cons_zero,List.set_cons_succ])
    refine wpAnyH_take (i:=2) (oi:=?oi3) (v:=?v3) ?hi3 (by kernel_rfl) (by kernel_rfl) (by kernel_rfl) (fun _ _ _ h=>h) (Or.inl ⟨?wd3,?hy3⟩) hHeld ?rest3
    case hi3=>(simp only [List.getElem?_toArray,List.getElem?_cons_succ,List.getElem?_cons_zero];rfl)
    case wd3=>rfl
    case hy3=>(intro w hSw;(try dsimp only at hSw);go_simp;try with_reducible rfl)
    (try simp only [Act.put,List.setIfInBounds_toArray,List.set_cons_zero,List.set_cons_succ])
    refine wpAnyH_ready (rs:=[3]) (by kernel_rfl) (by simp) ?_
    refine AllReadyH.cons (o:=?o4) ?ho4 (fun K hK=>?step4) AllReadyH.nil
    case ho4=>(simp only [List.getElem?_toArray,List.getElem?_cons_succ,List.getElem?_cons_zero];rfl)
    go_simp
    (go_at_call 139;refine (hH2.out _).mono ?_;rintro e w' ⟨rfl,hb'⟩)
    (try go_wp2_with fail)
    refine hK.out _ _ ?hS4 (fun hHeld'=>?rest4)
    case hS4=>((try dsimp only);(go_split_ands;refine ⟨?_,?_,?_,?_,?_,?_,?_,?_,?_,?_,?_,?_⟩ <;> first | (simp [*];done) | exact zaa hb' (by assumption)))
    clear hK K
    (try simp only [Act.put,List.setIfInBounds_toArray,List.set_cons_zero,List.set_cons_succ])
    clear hHeld
    have hHeld:=hHeld'
    clear hHeld'
    refine wpAnyH_take (i:=4) (oi:=?oi5) (v:=?v5) ?hi5 (by kernel_rfl) (by kernel_rfl) (by kernel_rfl) (fun _ _ _ h=>h) (Or.inl ⟨?wd5,?hy5⟩) hHeld ?rest5
    case hi5=>(simp only [List.getElem?_toArray,List.getElem?_cons_succ,List.getElem?_cons_zero];rfl)
    case wd5=>rfl
    case hy5=>(intro w hSw;(try dsimp only at hSw);go_simp;try with_reducible rfl)
    (try simp only [Act.put,List.setIfInBounds_toArray,List.set_cons_zero,List.set_cons_succ])
    refine wpAnyH_take (i:=5) (oi:=?oi6) (v:=undef) ?hi6 (by kernel_rfl) (by kernel_rfl) (by kernel_rfl) (fun _ _ _ h=>h) (Or.inr ⟨?wd6,rfl⟩) hHeld ?rest6
    case hi6=>(simp only [List.getElem?_toArray,List.getElem?_cons_succ,List.getElem?_cons_zero];rfl)
    case wd6=>rfl
    (try simp only [Act.put,List.setIfInBounds_toArray,List.set_cons_zero,List.set_cons_succ])
    refine wpAnyH_take (i:=6) (oi:=?oi7) (v:=undef) ?hi7 (by kernel_rfl) (by kernel_rfl) (by kernel_rfl) (fun _ _ _ h=>h) (Or.inr ⟨?wd7,rfl⟩) hHeld ?rest7
    case hi7=>(simp only [List.getElem?_toArray,List.getElem?_cons_succ,List.getElem?_cons_zero];rfl)
    case wd7=>rfl
    (try simp only [Act.put,List.setIfInBounds_toArray,List.set_cons_zero,List.set_cons_succ])
    refine wpAnyH_take (i:=7) (oi:=?oi8) (v:=undef) ?hi8 (by kernel_rfl) (by kernel_rfl) (by kernel_rfl) (fun _ _ _ h=>h) (Or.inr ⟨?wd8,rfl⟩) hHeld ?rest8
    case hi8=>(simp only [List.getElem?_toArray,List.getElem?_cons_succ,List.getElem?_cons_zero];rfl)
    case wd8=>rfl
    (try simp only [Act.put,List.setIfInBounds_toArray,List.set_cons_zero,List.set_cons_succ])
    refine wpAnyH_take (i:=8) (oi:=?oi9) (v:=undef) ?hi9 (by kernel_rfl) (by kernel_rfl) (by kernel_rfl) (fun _ _ _ h=>h) (Or.inr ⟨?wd9,rfl⟩) hHeld ?rest9
    case hi9=>(simp only [List.getElem?_toArray,List.getElem?_cons_succ,List.getElem?_cons_zero];rfl)
    case wd9=>rfl
    (try simp only [Act.put,List.setIfInBounds_toArray,List.set_cons_zero,List.set_cons_succ])
    refine wpAnyH_take (i:=9) (oi:=?oi10) (v:=undef) ?hi10 (by kernel_rfl) (by kernel_rfl) (by kernel_rfl) (fun _ _ _ h=>h) (Or.inr ⟨?wd10,rfl⟩) hHeld ?rest10
    case hi10=>(simp only [List.getElem?_toArray,List.getElem?_cons_succ,List.getElem?_cons_zero];rfl)
    case wd10=>rfl
    (try simp only [Act.put,List.setIfInBounds_toArray,List.set_cons_zero,List.set_cons_succ])
    refine wpAnyH_take (i:=10) (oi:=?oi11) (v:=undef) ?hi11 (by kernel_rfl) (by kernel_rfl) (by kernel_rfl) (fun _ _ _ h=>h) (Or.inr ⟨?wd11,rfl⟩) hHeld ?rest11
    case hi11=>(simp only [List.getElem?_toArray,List.getElem?_cons_succ,List.getElem?_cons_zero];rfl)
    case wd11=>rfl
    (try simp only [Act.put,List.setIfInBounds_toArray,List.set_cons_zero,List.set_cons_succ])
    refine wpAnyH_take (i:=11) (oi:=?oi12) (v:=undef) ?hi12 (by kernel_rfl) (by kernel_rfl) (by kernel_rfl) (fun _ _ _ h=>h) (Or.inr ⟨?wd12,rfl⟩) hHeld ?rest12
    case hi12=>(simp only [List.getElem?_toArray,List.getElem?_cons_succ,List.getElem?_cons_zero];rfl)
    case wd12=>rfl
    (try simp only [Act.put,List.setIfInBounds_toArray,List.set_cons_zero,List.set_cons_succ])
    refine wpAnyH_take (i:=12) (oi:=?oi13) (v:=undef) ?hi13 (by kernel_rfl) (by kernel_rfl) (by kernel_rfl) (fun _ _ _ h=>h) (Or.inr ⟨?wd13,rfl⟩) hHeld ?rest13
    case hi13=>(simp only [List.getElem?_toArray,List.getElem?_cons_succ,List.getElem?_cons_zero];rfl)
    case wd13=>rfl
    (try simp only [Act.put,List.setIfInBounds_toArray,List.set_cons_zero,List.set_cons_succ])
    refine wpAnyH_take (i:=13) (oi:=?oi14) (v:=undef) ?hi14 (by kernel_rfl) (by kernel_rfl) (by kernel_rfl) (fun _ _ _ h=>h) (Or.inr ⟨?wd14,rfl⟩) hHeld ?rest14
    case hi14=>(simp only [List.getElem?_toArray,List.getElem?_cons_succ,List.getElem?_cons_zero];rfl)
    case wd14=>rfl
    (try simp only [Act.put,List.setIfInBounds_toArray,List.set_cons_zero,List.set_cons_succ])
    refine wpAnyH_take (i:=14) (oi:=?oi15) (v:=undef) ?hi15 (by kernel_rfl) (by kernel_rfl) (by kernel_rfl) (fun _ _ _ h=>h) (Or.inr ⟨?wd15,rfl⟩) hHeld ?rest15
    case hi15=>(simp only [List.getElem?_toArray,List.getElem?_cons_succ,List.getElem?_cons_zero];rfl)
    case wd15=>rfl
    (try simp only [Act.put,List.setIfInBounds_toArray,List.set_cons_zero,List.set_cons_succ])
    refine wpAnyH_take (i:=15) (oi:=?oi16) (v:=undef) ?hi16 (by kernel_rfl) (by kernel_rfl) (by kernel_rfl) (fun _ _ _ h=>h) (Or.inr ⟨?wd16,rfl⟩) hHeld ?rest16
    case hi16=>(simp only [List.getElem?_toArray,List.getElem?_cons_succ,List.getElem?_cons_zero];rfl)
    case wd16=>rfl
    (try simp only [Act.put,List.setIfInBounds_toArray,List.set_cons_zero,List.set_cons_succ])
    refine wpAnyH_take (i:=16) (oi:=?oi17) (v:=undef) ?hi17 (by kernel_rfl) (by kernel_rfl) (by kernel_rfl) (fun _ _ _ h=>h) (Or.inr ⟨?wd17,rfl⟩) hHeld ?rest17
    case hi17=>(simp only [List.getElem?_toArray,List.getElem?_cons_succ,List.getElem?_cons_zero];rfl)
    case wd17=>rfl
    (try simp only [Act.put,List.setIfInBounds_toArray,List.set_cons_zero,List.set_cons_succ])
    refine wpAnyH_take (i:=17) (oi:=?oi18) (v:=undef) ?hi18 (by kernel_rfl) (by kernel_rfl) (by kernel_rfl) (fun _ _ _ h=>h) (Or.inr ⟨?wd18,rfl⟩) hHeld ?rest18
    case hi18=>(simp only [List.getElem?_toArray,List.getElem?_cons_succ,List.getElem?_cons_zero];rfl)
    case wd18=>rfl
    (try simp only [Act.put,List.setIfInBounds_toArray,List.set_cons_zero,List.set_cons_succ])
    refine wpAnyH_take (i:=18) (oi:=?oi19) (v:=undef) ?hi19 (by kernel_rfl) (by kernel_rfl) (by kernel_rfl) (fun _ _ _ h=>h) (Or.inr ⟨?wd19,rfl⟩) hHeld ?rest19
    case hi19=>(simp only [List.getElem?_toArray,List.getElem?_cons_succ,List.getElem?_cons_zero];rfl)
    case wd19=>rfl
    (try simp only [Act.put,List.setIfInBounds_toArray,List.set_cons_zero,List.set_cons_succ])
    refine wpAnyH_take (i:=19) (oi:=?oi20) (v:=undef) ?hi20 (by kernel_rfl) (by kernel_rfl) (by kernel_rfl) (fun _ _ _ h=>h) (Or.inr ⟨?wd20,rfl⟩) hHeld ?rest20
    case hi20=>(simp only [List.getElem?_toArray,List.getElem?_cons_succ,List.getElem?_cons_zero];rfl)
    case wd20=>rfl
    (try simp only [Act.put,List.setIfInBounds_toArray,List.set_cons_zero,List.set_cons_succ])
    refine wpAnyH_take (i:=20) (oi:=?oi21) (v:=?v21) ?hi21 (by kernel_rfl) (by kernel_rfl) (by kernel_rfl) (fun _ _ _ h=>h) (Or.inl ⟨?wd21,?hy21⟩) hHeld ?rest21
    case hi21=>(simp only [List.getElem?_toArray,List.getElem?_cons_succ,List.getElem?_cons_zero];rfl)
    case wd21=>rfl
    case hy21=>(intro w hSw;(try dsimp only at hSw);go_simp;try with_reducible rfl)
    (try simp only [Act.put,List.setIfInBounds_toArray,List.set_cons_zero,List.set_cons_succ])
    refine wpAnyH_take (i:=21) (oi:=?oi22) (v:=?v22) ?hi22 (by kernel_rfl) (by kernel_rfl) (by kernel_rfl) (fun _ _ _ h=>h) (Or.inl ⟨?wd22,?hy22⟩) hHeld ?rest22
    case hi22=>(simp only [List.getElem?_toArray,List.getElem?_cons_succ,List.getElem?_cons_zero];rfl)
    case wd22=>rfl
    case hy22=>(intro w hSw;(try dsimp only at hSw);go_simp;try with_reducible rfl)
    (try simp only [Act.put,List.setIfInBounds_toArray,List.set_cons_zero,List.set_cons_succ])
    refine wpAnyH_done (by kernel_rfl) ?_ _
    refine NoPanic.normal ?_
    go_wp2
    go_ret
    exact ⟨zac HN.out.symm,((B2 _ _).trans (hb1.mono (by simp;omega))).drew.trans (hb'.mono (by have:=(B2 default default).size;have:=hb1.size;simp at *;omega))⟩
   ·rw [hs2] at hH2
    obtain ⟨r,u,er,hrl,hvr,hgr⟩:=zlG hs2
    obtain ⟨b2,o2,e2,g0,g1,g2⟩:=hv r u hvr
    cases e2
    have HN:Hid (zbx t f.slots=meets t.op v u):=show zbx t f.slots=_ from by simp [zbx,hg,ho,hgr]
    have hM:=hidA (fun w'=>zfj v u t.op w')
    have y0:(0:Int)≤(r:Int):=by omega
    have y1:(r:Int)<(f.slots.length:Int):=by omega
    have y2:((r:Int) == -1)=false:=by simp
    rw [er] at hH2
    rw [es,er]
    rw [es] at hH1
    clear es hg hvs hv er hgr hvr ho
    go_enter Tryz.func108,Tryz.ntmps108
    go_wp2_with (go_at_call 139;refine (hH1.out _).mono ?_;rintro e w1 ⟨rfl,hb1⟩;have p0:w1.cell? ⟨w.heap.size,0,none⟩=some (.int .i64 (s:Int)):=zaa hb1 (by simp [go_sem]);have p1:w1.cell? ⟨w.heap.size,1,none⟩=some (.int .i64 t.op):=zaa hb1 (by simp [go_sem]);have p2:w1.cell? ⟨w.heap.size,2,none⟩=some (.int .i64 (r:Int)):=zaa hb1 (by simp [go_sem]);have p3:w1.cell? ⟨w.heap.size,3,none⟩=some (.int .i64 t.val.kind):=zaa hb1 (by simp [go_sem]);have p4:w1.cell? ⟨w.heap.size,4,none⟩=some (.int .i64 t.val.num):=zaa hb1 (by simp [go_sem]);have p5:w1.cell? ⟨w.heap.size,5,none⟩=some (.string t.val.sym):=zaa hb1 (by simp [go_sem]);have f0:w1.cell? ⟨w.heap.size+1,0,none⟩=some (.int .i64 f.tag):=zaa hb1 (by simp [go_sem]);have f1:w1.cell? ⟨w.heap.size+1,1,none⟩=some (.string f.cls):=zaa hb1 (by simp [go_sem]);have f2:w1.cell? ⟨w.heap.size+1,2,none⟩=some (.slice (some ⟨b,o,none⟩) f.slots.length c):=zaa hb1 (by simp [go_sem]);have x0:=zaa hb1 (zaa (B2 _ _) c0);have x1:=zaa hb1 (zaa (B2 _ _) c1);have x2:=zaa hb1 (zaa (B2 _ _) c2);have v0:=zaa hb1 (zaa (B2 _ _) g0);have v1:=zaa hb1 (zaa (B2 _ _) g1);have v2:=zaa hb1 (zaa (B2 _ _) g2))
    clear c0 c1 c2 g0 g1 g2 hs hs2 hsl hrl hH1 y2
    first
    | (go_region_held3 (fun w'=>w'.cell? ⟨w.heap.size,0,none⟩=some (.int .i64 (s:Int))∧w'.cell? ⟨w.heap.size,1,none⟩=some (.int .i64 t.op)∧w'.cell? ⟨w.heap.size,2,none⟩=some (.int .i64 (r:Int))∧w'.cell? ⟨w.heap.size,3,none⟩=some (.int .i64 t.val.kind)∧w'.cell? ⟨w.heap.size,4,none⟩=some (.int .i64 t.val.num)∧w'.cell? ⟨w.heap.size,5,none⟩=some (.string t.val.sym)∧w'.cell? ⟨w.heap.size+1,0,none⟩=some (.int .i64 f.tag)∧w'.cell? ⟨w.heap.size+1,1,none⟩=some (.string f.cls)∧w'.cell? ⟨w.heap.size+1,2,none⟩=some (.slice (some ⟨b,o,none⟩) f.slots.length c)∧w'.cell? ⟨b,o+s * 3,none⟩=some (.int .i64 v.kind)∧w'.cell? ⟨b,o+s * 3+1,none⟩=some (.int .i64 v.num)∧w'.cell? ⟨b,o+s * 3+2,none⟩=some (.string v.sym)∧w'.cell? ⟨b,o+r * 3,none⟩=some (.int .i64 u.kind)∧w'.cell? ⟨b,o+r * 3+1,none⟩=some (.int .i64 u.num)∧w'.cell? ⟨b,o+r * 3+2,none⟩=some (.string u.sym)) ((go_split_ands;refine ⟨?_,?_,?_,?_,?_,?_,?_,?_,?_,?_,?_,?_,?_,?_,?_⟩ <;> first | (simp [*];done) | exact zaa hb' (by assumption))) (first | (go_at_call 139;refine (hH2.out _).mono ?_;rintro e w' ⟨rfl,hb'⟩) | (go_at_call 97;refine (hM.out _).mono ?_;rintro e w'' ⟨rfl,hb''⟩;have hb0:=hb';have hb':=hb'') | fail))
    | fail
    go_wp2
    go_ret
    exact ⟨zac HN.out.symm,(((B2 _ _).trans (hb1.mono (by simp;omega))).drew.trans (hb0.mono (by have:=(B2 default default).size;have:=hb1.size;simp at *;omega))).trans (hb''.mono (by have:=(B2 default default).size;have:=hb1.size;have:=hb0.size;simp at *;omega))⟩
end Go.Proofs.YtmmdlgjmplddiaaGreat
namespace Go.Proofs.YtmmdlgjmplddiaaGreat
def zVm:V:=(0,0,⟨#[]⟩)
def agT (out:List Bd) (t:Tm) (v:V):Option (List Bd):=
 if t.kind=1 then (if v=t.val then some out else none)
 else if t.kind=2 then (match zbl out t.var with | some old=>if old=v then some out else none | none=>some (out ++ [⟨t.var,v⟩]))
 else if t.kind=3 then (if meets t.op v (if t.var=⟨#[]⟩ then t.val else (zbl out t.var).getD zVm)=true then some out else none)
 else some out
def agGo:List Bd→List Tm→List V→Option (List Bd)
 | out,[],_=>some out
 | out,_ :: _,[]=>some out
 | out,t :: ts,v :: vs=>(match agT out t v with | some o=>agGo o ts vs | none=>none)
def agree (p:Pt) (f:F) (bs:List Bd):Option (List Bd):=if p.cls=f.cls∧p.terms.length=f.slots.length then agGo bs p.terms f.slots else none
theorem zdS (out:List Bd) (t:Tm) (ts:List Tm) (v:V) (vs:List V):agGo out (t :: ts) (v :: vs)=(match agT out t v with | some o=>agGo o ts vs | none=>none):=rfl
theorem zl3 {out o:List Bd}{t:Tm}{ts:List Tm}{v:V}{vs:List V} (h:agT out t v=some o):agGo out (t :: ts) (v :: vs)=agGo o ts vs:=by rw [zdS,h]
theorem zmF {out:List Bd}{t:Tm}{ts:List Tm}{v:V}{vs:List V} (h:agT out t v=none):agGo out (t :: ts) (v :: vs)=none:=by rw [zdS,h]
theorem zoK {out o:List Bd}{t:Tm}{v:V} (h:agT out t v=some o):o.length≤out.length+1:=by
 unfold agT at h
 split at h
 ·split at h
  ·injection h with h;subst h;omega
  ·cases h
 ·split at h
  ·split at h
   ·split at h
    ·injection h with h;subst h;omega
    ·cases h
   ·injection h with h;subst h;simp
  ·split at h
   ·by_cases hm:meets t.op v (if t.var=⟨#[]⟩ then t.val else (zbl out t.var).getD zVm)=true
    ·rw [if_pos hm] at h;injection h with h;subst h;omega
    ·rw [if_neg hm] at h;cases h
   ·injection h with h;subst h;omega
structure Pm where
 tags:List Int
 binds:List Bd
def hits (p:Pt) (x:Pm):List F→List Pm
 | []=>[]
 | f :: r=>(match agree p f x.binds with | some bs=>[⟨x.tags ++ [f.tag],bs⟩] | none=>[]) ++ hits p x r
def zcn (p:Pt) (fs:List F) (x:Pm):List Pm:=if p.neg=true then (if (hits p x fs).length=0 then [x] else []) else hits p x fs
def zbc (p:Pt) (fs:List F) (xs:List Pm):List Pm:=xs.flatMap (zcn p fs)
def allM:List Pt→List F→List Pm→Nat→List Pm × Nat
 | [],_,xs,n=>(xs,n)
 | p :: ps,fs,xs,n=>allM ps fs (zbc p fs xs) (n+(zbc p fs xs).length)
theorem zdl (p:Pt) (x:Pm) (f:F):∀ l:List F,hits p x (l ++ [f])=hits p x l ++ (match agree p f x.binds with | some bs=>[⟨x.tags ++ [f.tag],bs⟩] | none=>[])
 | []=>by simp [hits]
 | g :: r=>by
  simp only [List.cons_append,hits]
  rw [zdl p x f r,List.append_assoc]
theorem zeX (p:Pt) (x:Pm):∀ l:List F,(hits p x l).length≤l.length
 | []=>Nat.le_refl _
 | f :: r=>by
  have:=zeX p x r
  simp only [hits,List.length_append,List.length_cons]
  split <;> simp <;> omega
theorem zkt (p:Pt) (fs:List F) (x:Pm):(zcn p fs x).length≤fs.length+1:=by
 have:=zeX p x fs
 unfold zcn
 split
 ·split <;> simp
 ·omega
end Go.Proofs.YtmmdlgjmplddiaaGreat
namespace Go.Proofs.YtmmdlgjmplddiaaGreat
open Go.RowKit
set_option maxHeartbeats 3200000 in
theorem zdf (v o:V) (op:Int) (w:World) :
  Calls Tryz.prog 35 #[.int .i64 op,.agg #[.int .i64 v.kind,.int .i64 v.num,.string v.sym],.agg #[.int .i64 o.kind,.int .i64 o.num,.string o.sym]] w fun e w'=>
   e=.returned (.bool (meets op v o))∧Below w.heap.size w w':=by
 have B2:∀ o o1,Below w.heap.size w ((w.alloc o).alloc o1):=fun o o1=>((Below.refl _ _).alloc (Nat.le_refl _) _).alloc (by simp) _
 by_cases h1:op=1
 ·subst h1
  cases k1:(v.kind==0) <;> cases k2:(o.kind==0)
  all_goals
   go_enter Tryz.func35,Tryz.ntmps35
   go_wp2
  all_goals go_ret
  all_goals exact ⟨zac (by simp [meets,eqV, *]),B2 _ _⟩
 by_cases h2:op=2
 ·subst h2
  cases k1:(v.kind==0) <;> cases k2:(o.kind==0)
  all_goals
   go_enter Tryz.func35,Tryz.ntmps35
   go_wp2
  all_goals go_ret
  all_goals exact ⟨zac (by simp [meets,eqV, *]),B2 _ _⟩
 by_cases h3:op=3
 ·subst h3
  cases k1:(v.kind==0) <;> cases k2:(o.kind==0)
  all_goals
   go_enter Tryz.func35,Tryz.ntmps35
   go_wp2
  all_goals go_ret
  all_goals exact ⟨zac (by simp [meets,numV, *]),B2 _ _⟩
 by_cases h4:op=4
 ·subst h4
  cases k1:(v.kind==0) <;> cases k2:(o.kind==0)
  all_goals
   go_enter Tryz.func35,Tryz.ntmps35
   go_wp2
  all_goals go_ret
  all_goals exact ⟨zac (by simp [meets,numV, *]),B2 _ _⟩
 by_cases h5:op=5
 ·subst h5
  cases k1:(v.kind==0) <;> cases k2:(o.kind==0)
  all_goals
   go_enter Tryz.func35,Tryz.ntmps35
   go_wp2
  all_goals go_ret
  all_goals exact ⟨zac (by simp [meets,numV, *]),B2 _ _⟩
 by_cases h6:op=6
 ·subst h6
  cases k1:(v.kind==0) <;> cases k2:(o.kind==0)
  all_goals
   go_enter Tryz.func35,Tryz.ntmps35
   go_wp2
  all_goals go_ret
  all_goals exact ⟨zac (by simp [meets,numV, *]),B2 _ _⟩
 cases k1:(v.kind==0) <;> cases k2:(o.kind==0)
 all_goals
  go_enter Tryz.func35,Tryz.ntmps35
  go_wp2
 all_goals go_ret
 all_goals exact ⟨zac (by simp [meets, *]),B2 _ _⟩
end Go.Proofs.YtmmdlgjmplddiaaGreat
