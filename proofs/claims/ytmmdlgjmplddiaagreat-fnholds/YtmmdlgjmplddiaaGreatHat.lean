/-
  OUR OWN TEXT. Pg1, Pg4, Pg5, Pg6, Pg2, one behind the other.
-/
import Derived.Test.YtmmdlgjmplddiaaGreatHas
import Derived.Test.YtmmdlgjmplddiaaGreatHaa
import Derived.Deep.RegionHeld3
import Derived.Deep.DeepCutAuto
import Derived.Test.YtmmdlgjmplddiaaGreatHah
import Derived.Test.YtmmdlgjmplddiaaGreatHal
import Derived.Deep.DrawnRows
namespace Go.Proofs.YtmmdlgjmplddiaaGreat
open Go.RowKit
attribute [local go_sem ↓] Go.wp_at_zero Go.wp_at_succ
theorem hidP {p:Prop} (h:p):Hid p:=h
def zcs (w:World) (v:Value) (f:F):Prop:=
 ∃ b o,v=.pointer (some ⟨b,o,none⟩)∧w.cell? ⟨b,o,none⟩=some (.int .i64 f.tag)∧w.cell? ⟨b,o+1,none⟩=some (.string f.cls)∧∃ a c,w.cell? ⟨b,o+2,none⟩=some (.slice a f.slots.length c)∧zaY w a f.slots
theorem zcs.below {w w':World}{v:Value}{f:F} (h:zcs w v f) (hb:Below w.heap.size w w'):zcs w' v f:=by
 obtain ⟨b,o,e,h0,h1,a,c,h2,h3⟩:=h
 exact ⟨b,o,e,zaa hb h0,zaa hb h1,a,c,zaa hb h2,h3.below hb⟩
theorem ziY {w:World}{b o:Nat}{x:Value} (h:w.cell? ⟨b,o,none⟩=some x):b<w.heap.size:=by
 by_cases hp:b<w.heap.size
 ·exact hp
 ·have:w.heap[b]?=none:=Array.getElem?_eq_none (by omega)
  simp [World.cell?,this] at h
theorem lift3P {P:World→Prop}{w:World}{o1 o2 o3:Obj} (h:∀ wt,Below w.heap.size w wt→wt.heap[w.heap.size]?=some o1→wt.heap[w.heap.size+1]?=some o2→wt.heap[w.heap.size+2]?=some o3→P wt):P (((w.alloc o1).alloc o2).alloc o3):=by
 refine h _ ((((Below.refl _ _).alloc (Nat.le_refl _) _).alloc (by simp) _).alloc (by simp;omega) _) ?_ ?_ ?_
 ·exact (Below.heap_alloc _ _ _ (by simp;omega)).trans ((Below.heap_alloc _ _ _ (by simp)).trans (heap_alloc_new _ _))
 ·exact (Below.heap_alloc _ _ _ (by simp)).trans (by have:=heap_alloc_new (w.alloc o1) o2;simpa using this)
 ·have:=heap_alloc_new ((w.alloc o1).alloc o2) o3
  simpa using this
set_option maxHeartbeats 3200000 in
theorem zjm (p0 p1 p2 pv:Value) (i s:Nat) (f:F) (v:V) (w:World) (hp:[p0,p1,p2][i]?=some pv) (hF:zcs w pv f) (hv:f.slots[s]?=some v) :
  Calls Tryz.prog 98 #[.agg #[p0,p1,p2],.agg #[.int .i64 (i:Int),.int .i64 (s:Int)]] w fun e w'=>e=.returned (.agg #[.int .i64 v.kind,.int .i64 v.num,.string v.sym])∧Below w.heap.size w w':=by
 have hi3:i<3:=by
  by_cases h:i<3
  ·exact h
  ·rw [List.getElem?_eq_none (by simp;omega)] at hp
   cases hp
 obtain ⟨b,o,rfl,h0,h1,a,c,h2,h3⟩:=hF
 obtain ⟨vb,vo,rfl,u0,u1,u2⟩:=h3 s v hv
 have hsl:s<f.slots.length:=(List.getElem?_eq_some_iff.1 hv).1
 go_enter Tryz.func98,Tryz.ntmps98
 go_upto_region 1 with fail
 refine lift3P ?_
 intro w0 hW0 hq0 hq1 hq2
 have t0:w0.cell? ⟨w.heap.size,i,none⟩=some (.pointer (some ⟨b,o,none⟩)):=by
  rcases i with _ | _ | _ | i
  ·simp at hp;subst hp;simp [World.cell?,hq0]
  ·simp at hp;subst hp;simp [World.cell?,hq0]
  ·simp at hp;subst hp;simp [World.cell?,hq0]
  ·omega
 have t1:w0.cell? ⟨w.heap.size+1,0,none⟩=some (.int .i64 (i:Int)):=by simp [World.cell?,hq1]
 have t2:w0.cell? ⟨w.heap.size+1,1,none⟩=some (.int .i64 (s:Int)):=by simp [World.cell?,hq1]
 have x0:w0.cell? ⟨w.heap.size+2,0,none⟩=some (.int .i64 0):=by simp [World.cell?,hq2]
 have x1:w0.cell? ⟨w.heap.size+2,1,none⟩=some (.int .i64 0):=by simp [World.cell?,hq2]
 have x2:w0.cell? ⟨w.heap.size+2,2,none⟩=some (.string ⟨#[]⟩):=by simp [World.cell?,hq2]
 have z0:w0.frozen? ⟨w.heap.size+2,0,none⟩=false:=by simp [World.frozen?,hq2]
 have z1:w0.frozen? ⟨w.heap.size+2,1,none⟩=false:=by simp [World.frozen?,hq2]
 have z2:w0.frozen? ⟨w.heap.size+2,2,none⟩=false:=by simp [World.frozen?,hq2]
 have g2:=zaa hW0 h2
 have v0:=zaa hW0 u0
 have v1:=zaa hW0 u1
 have v2:=zaa hW0 u2
 have k0:(0:Int)≤(i:Int):=by omega
 have k1:(i:Int)<3:=by omega
 have k2:(0:Int)≤(s:Int):=by omega
 have k3:(s:Int)<(f.slots.length:Int):=by omega
 have B0:=hidP hW0
 have Q2:=hidP hq2
 have hl2:w.heap.size+2<w0.heap.size:=zab hq2
 clear hW0 hq0 hq1 hq2 h0 h1 h2 h3 u0 u1 u2 hv hp
 go_wp2_with fail
 go_region
 go_wp2_with fail
 refine bodyPost_ret (v:=.agg #[.int .i64 v.kind,.int .i64 v.num,.string v.sym]) (by simp [results,Tryz.results98,go_sem,x0,x1,x2]) rfl ⟨rfl,?_⟩
 exact (((B0.out.setCell (by simp;omega) _).setCell (by simp;omega) _).setCell (by simp;omega) _).drew
structure Jt where
 slot:Nat
 op:Int
 fact:Nat
 at_:Nat
def zco (t:Jt):List Value:=[.int .i64 (t.slot:Int),.int .i64 t.op,.int .i64 (t.fact:Int),.int .i64 (t.at_:Int)]
def zdM (w:World) (a:Option Addr) (ts:List Jt):Prop:=
 ∀ (i:Nat) (t:Jt),ts[i]?=some t→∃ b o,a=some ⟨b,o,none⟩∧w.cell? ⟨b,o+i * 4,none⟩=some (.int .i64 (t.slot:Int))∧w.cell? ⟨b,o+i * 4+1,none⟩=some (.int .i64 t.op)∧w.cell? ⟨b,o+i * 4+2,none⟩=some (.int .i64 (t.fact:Int))∧w.cell? ⟨b,o+i * 4+3,none⟩=some (.int .i64 (t.at_:Int))
theorem zdM.below {w w':World}{a:Option Addr}{ts:List Jt} (h:zdM w a ts) (hb:Below w.heap.size w w'):zdM w' a ts:=by
 intro i t hi
 obtain ⟨b,o,e,h0,h1,h2,h3⟩:=h i t hi
 exact ⟨b,o,e,zaa hb h0,zaa hb h1,zaa hb h2,zaa hb h3⟩
def zdb (w:World) (p0 p1 p2:Value) (T:List F):Prop:=∀ (i:Nat) (f:F),T[i]?=some f→∃ pv,[p0,p1,p2][i]?=some pv∧zcs w pv f
theorem zdb.below {w w':World}{p0 p1 p2:Value}{T:List F} (h:zdb w p0 p1 p2 T) (hb:Below w.heap.size w w'):zdb w' p0 p1 p2 T:=by
 intro i f hi
 obtain ⟨pv,h1,h2⟩:=h i f hi
 exact ⟨pv,h1,h2.below hb⟩
def Jt.fits (t:Jt) (T:List F) (f:F):Prop:=t.slot<f.slots.length∧∃ g,T[t.fact]?=some g∧t.at_<g.slots.length
def zaI (T:List F) (f:F) (t:Jt):Bool:=meets t.op (f.slots[t.slot]?.getD (0,0,⟨#[]⟩)) (((T[t.fact]?.map (·.slots)).getD [])[t.at_]?.getD (0,0,⟨#[]⟩))
theorem zlE {T:List F}{f g:F}{t:Jt}{v u:V} (h1:f.slots[t.slot]?=some v) (h2:T[t.fact]?=some g) (h3:g.slots[t.at_]?=some u):zaI T f t=meets t.op v u:=by
 unfold zaI
 rw [h1,h2]
 simp [h3]
theorem lift2P {P:World→Prop}{w:World}{o1 o2:Obj} (h:∀ wt,Below w.heap.size w wt→wt.heap[w.heap.size]?=some o1→wt.heap[w.heap.size+1]?=some o2→P wt):P ((w.alloc o1).alloc o2):=
 h _ (((Below.refl _ _).alloc (Nat.le_refl _) _).alloc (by simp) _) ((Below.heap_alloc _ _ _ (by simp)).trans (heap_alloc_new _ _)) (by have:=heap_alloc_new (w.alloc o1) o2;simpa using this)
theorem cells4P {w:World}{b:Nat}{ty:TypeId}{x0 x1 x2 x3:Value} (h:w.heap[b]?=some (.cells #[x0,x1,x2,x3] ty (0,0))):w.cell? ⟨b,0,none⟩=some x0∧w.cell? ⟨b,1,none⟩=some x1∧w.cell? ⟨b,2,none⟩=some x2∧w.cell? ⟨b,3,none⟩=some x3:=by
 refine ⟨?_,?_,?_,?_⟩ <;> simp [World.cell?,h]
theorem cells3P {w:World}{b:Nat}{ty:TypeId}{x0 x1 x2:Value} (h:w.heap[b]?=some (.cells #[x0,x1,x2] ty (0,0))):w.cell? ⟨b,0,none⟩=some x0∧w.cell? ⟨b,1,none⟩=some x1∧w.cell? ⟨b,2,none⟩=some x2:=by
 refine ⟨?_,?_,?_⟩ <;> simp [World.cell?,h]
set_option maxRecDepth 100000 in
set_option maxHeartbeats 6400000 in
theorem zd6 (ng ct nd p0 p1 p2 pf:Value) (ts:List Jt) (ta:Option Addr) (tc:Nat) (T:List F) (f:F) (w:World) (h_t:zdM w ta ts) (h_T:zdb w p0 p1 p2 T) (h_f:zcs w pf f) (hl:ts.length≤1048576) (hfit:∀ t∈ts,t.fits T f) :
  Calls Tryz.prog 59 #[.agg #[ng,ct,nd,.slice ta ts.length tc],.agg #[p0,p1,p2],pf] w fun e w'=>e=.returned (.bool (ts.all (zaI T f)))∧Below w.heap.size w w':=by
 have HJ:=hidP h_t
 have HT:=hidP h_T
 have HF:=hidP h_f
 have HFI:=hidP hfit
 clear h_t h_T h_f hfit
 go_enter Tryz.func59,Tryz.ntmps59
 go_upto_region 1 with fail
 refine lift2P ?_
 intro w0 hW0 hq0 hq1
 obtain ⟨_,_,_,c3⟩:=cells4P hq0
 obtain ⟨t0,t1,t2⟩:=cells3P hq1
 have H0:=hidP hW0
 have hl0:w.heap.size+1<w0.heap.size:=zab hq1
 clear hW0 hq0 hq1
 go_wp2_with fail
 go_loopw [12] (fun iv wr=>∃ (k:Nat),iv=.int .i64 (k:Int)∧k≤ts.length∧ts.all (zaI T f)=(ts.drop k).all (zaI T f)∧Below w0.heap.size w0 wr) (fun iv _=>ts.length - (intOf iv).toNat)
 case atStart=>exact ⟨0,rfl,Nat.zero_le _,rfl,Below.refl _ _⟩
 case round=>
  obtain ⟨k,rfl,hkl,hG,hb⟩:=hrel
  have HG:=hidP hG
  have HBB:=hidP hb
  have HBW:=hidP (H0.out.trans (hb.mono H0.out.size))
  have hsr:=hb.size
  clear hG hb
  by_cases hk:k<ts.length
  ·obtain ⟨t,ht⟩:∃ t,ts[k]?=some t:=⟨ts[k],by simp [hk]⟩
   obtain ⟨jb,jo,rfl,j0,j1,j2,j3⟩:=(HJ.out.below HBW.out) k t ht
   obtain ⟨hsl,g,hg,hat⟩:=HFI.out t (List.mem_of_getElem? ht)
   obtain ⟨v,hv⟩:∃ v,f.slots[t.slot]?=some v:=⟨f.slots[t.slot],by simp [hsl]⟩
   obtain ⟨u,hu⟩:∃ u,g.slots[t.at_]?=some u:=⟨g.slots[t.at_],by simp [hat]⟩
   obtain ⟨pv,hpv,hpf⟩:=HT.out _ g hg
   have HD:=hidP (show ts.all (zaI T f)=(meets t.op v u && (ts.drop (k+1)).all (zaI T f)) by rw [HG.out,zan ht,List.all_cons,zlE hv hg hu])
   have HVAL:=hidP (fun w' (h:Below w.heap.size w w')=>zjm p0 p1 p2 pv t.fact t.at_ g u w' hpv (hpf.below h) hu)
   have HME:=hidP (fun w'=>ze6 v u t.op w')
   obtain ⟨fb,fo,rfl,s0,s1,fa,fc,s2,hsv⟩:=HF.out
   obtain ⟨vb,vo,rfl,y0,y1,y2⟩:=hsv _ v hv
   have r0:=zaa HBB.out t0
   have r1:=zaa HBB.out t1
   have r2:=zaa HBB.out t2
   have g2:=zaa HBW.out s2
   have v0:=zaa HBW.out y0
   have v1:=zaa HBW.out y1
   have v2:=zaa HBW.out y2
   have z0:(0:Int)≤(k:Int):=by omega
   have z1:(k:Int)<(ts.length:Int):=by omega
   have z2:(0:Int)≤(t.slot:Int):=by omega
   have z3:(t.slot:Int)<(f.slots.length:Int):=by omega
   clear ht hv hu hpv hpf hg HG s0 s1 s2 hsv y0 y1 y2 hat
   go_upto_region 4 with fail
   refine zaj ?_
   intro w2 hW2 hq2
   obtain ⟨d0,d1,d2,d3⟩:=cells4P hq2
   have q0:=zaa hW2 r0
   have q1:=zaa hW2 r1
   have q2:=zaa hW2 r2
   have e2:=zaa hW2 g2
   have x0:=zaa hW2 v0
   have x1:=zaa hW2 v1
   have x2:=zaa hW2 v2
   have D2:=hidP (HBB.out.trans (hW2.mono HBB.out.size))
   have W2:=hidP (HBW.out.trans (hW2.mono HBW.out.size))
   have hs2:=hW2.size
   clear hW2 hq2 r0 r1 r2 g2 v0 v1 v2 j0 j1 j2 j3 HBB HBW
   cases hm:meets t.op v u
   ·have HN:=hidP (show ts.all (zaI T f)=false by rw [HD.out,hm];rfl)
    rw [hm] at HME
    clear hm HD
    go_wp2_with fail
    go_region_held3 (fun w'=>w'.cell? ⟨wr.heap.size,0,none⟩=some (.int .i64 (t.slot:Int))∧w'.cell? ⟨wr.heap.size,1,none⟩=some (.int .i64 t.op)∧w'.cell? ⟨wr.heap.size,2,none⟩=some (.int .i64 (t.fact:Int))∧w'.cell? ⟨wr.heap.size,3,none⟩=some (.int .i64 (t.at_:Int))∧w'.cell? ⟨w.heap.size+1,0,none⟩=some p0∧w'.cell? ⟨w.heap.size+1,1,none⟩=some p1∧w'.cell? ⟨w.heap.size+1,2,none⟩=some p2∧w'.cell? ⟨fb,fo+2,none⟩=some (.slice (some ⟨vb,vo,none⟩) f.slots.length fc)∧w'.cell? ⟨vb,vo+t.slot * 3,none⟩=some (.int .i64 v.kind)∧w'.cell? ⟨vb,vo+t.slot * 3+1,none⟩=some (.int .i64 v.num)∧w'.cell? ⟨vb,vo+t.slot * 3+2,none⟩=some (.string v.sym)∧Below w0.heap.size w0 w'∧w2.heap.size≤w'.heap.size) ((go_split_ands;refine ⟨?_,?_,?_,?_,?_,?_,?_,?_,?_,?_,?_,?_,?_⟩ <;> first | (simp [*];done) | exact D2.out.drew | exact zaa hb' (by assumption) | exact Below.trans (by assumption) (Below.mono hb' (by omega)) | omega)) (first | (go_at_call 98;refine (HVAL.out _ (by first | exact W2.out.drew | exact W2.out | exact H0.out.trans (Below.mono (by assumption) H0.out.size))).mono ?_;rintro e w' ⟨rfl,hb'⟩;have hsz':=hb'.size) | (go_at_call 97;refine (HME.out _).mono ?_;rintro e w' ⟨rfl,hb'⟩;have hsz':=hb'.size) | fail)
    rename_i hh
    have D9:=hidP hh.2.2.2.2.2.2.2.2.2.2.2.1
    clear hh
    go_wp2_with fail
    go_ret
    exact ⟨zac HN.out.symm,H0.out.trans (D9.out.mono H0.out.size)⟩
   ·have HN:=hidP (show ts.all (zaI T f)=(ts.drop (k+1)).all (zaI T f) by rw [HD.out,hm];rfl)
    rw [hm] at HME
    clear hm HD
    go_wp2_with fail
    go_region_held3 (fun w'=>w'.cell? ⟨wr.heap.size,0,none⟩=some (.int .i64 (t.slot:Int))∧w'.cell? ⟨wr.heap.size,1,none⟩=some (.int .i64 t.op)∧w'.cell? ⟨wr.heap.size,2,none⟩=some (.int .i64 (t.fact:Int))∧w'.cell? ⟨wr.heap.size,3,none⟩=some (.int .i64 (t.at_:Int))∧w'.cell? ⟨w.heap.size+1,0,none⟩=some p0∧w'.cell? ⟨w.heap.size+1,1,none⟩=some p1∧w'.cell? ⟨w.heap.size+1,2,none⟩=some p2∧w'.cell? ⟨fb,fo+2,none⟩=some (.slice (some ⟨vb,vo,none⟩) f.slots.length fc)∧w'.cell? ⟨vb,vo+t.slot * 3,none⟩=some (.int .i64 v.kind)∧w'.cell? ⟨vb,vo+t.slot * 3+1,none⟩=some (.int .i64 v.num)∧w'.cell? ⟨vb,vo+t.slot * 3+2,none⟩=some (.string v.sym)∧Below w0.heap.size w0 w'∧w2.heap.size≤w'.heap.size) ((go_split_ands;refine ⟨?_,?_,?_,?_,?_,?_,?_,?_,?_,?_,?_,?_,?_⟩ <;> first | (simp [*];done) | exact D2.out.drew | exact zaa hb' (by assumption) | exact Below.trans (by assumption) (Below.mono hb' (by omega)) | omega)) (first | (go_at_call 98;refine (HVAL.out _ (by first | exact W2.out.drew | exact W2.out | exact H0.out.trans (Below.mono (by assumption) H0.out.size))).mono ?_;rintro e w' ⟨rfl,hb'⟩;have hsz':=hb'.size) | (go_at_call 97;refine (HME.out _).mono ?_;rintro e w' ⟨rfl,hb'⟩;have hsz':=hb'.size) | fail)
    rename_i hh
    have D9:=hidP hh.2.2.2.2.2.2.2.2.2.2.2.1
    clear hh
    go_wp2_with fail
    go_roundw
    case rel=>exact ⟨k+1,by go_num,by omega,HN.out,D9.out⟩
    case measure=>(simp [intOf];omega)
  ·have hke:k=ts.length:=by omega
   subst hke
   have HN:=hidP (show ts.all (zaI T f)=true by rw [HG.out,List.drop_eq_nil_of_le (Nat.le_refl _)];rfl)
   have hy:¬ (ts.length:Int)<(ts.length:Int):=by omega
   go_wp2_with fail
   go_ret
   exact ⟨zac HN.out.symm,HBW.out⟩
end Go.Proofs.YtmmdlgjmplddiaaGreat
namespace Go.Proofs.YtmmdlgjmplddiaaGreat
open Go.RowKit
attribute [local go_sem ↓] Go.wp_at_zero Go.wp_at_succ
structure Vr where
 name:ByteArray
 fact:Nat
 slot:Nat
def zbA (v:Vr):List Value:=[.string v.name,.int .i64 (v.fact:Int),.int .i64 (v.slot:Int)]
def zfm (w:World) (a:Option Addr) (vs:List Vr):Prop:=
 ∀ (i:Nat) (v:Vr),vs[i]?=some v→∃ b o,a=some ⟨b,o,none⟩∧w.cell? ⟨b,o+i * 3,none⟩=some (.string v.name)∧w.cell? ⟨b,o+i * 3+1,none⟩=some (.int .i64 (v.fact:Int))∧w.cell? ⟨b,o+i * 3+2,none⟩=some (.int .i64 (v.slot:Int))
theorem zfm.below {w w':World}{a:Option Addr}{vs:List Vr} (h:zfm w a vs) (hb:Below w.heap.size w w'):zfm w' a vs:=by
 intro i v hi
 obtain ⟨b,o,e,h0,h1,h2⟩:=h i v hi
 exact ⟨b,o,e,zaa hb h0,zaa hb h1,zaa hb h2⟩
def zaV:List Vr→ByteArray→Option Vr
 | [],_=>none
 | v :: r,s=>if v.name=s then some v else zaV r s
theorem zcY (v:Vr) (r:List Vr) (s:ByteArray):zaV (v :: r) s=if v.name=s then some v else zaV r s:=rfl
def whV:Option Vr→Value
 | some v=>.tuple #[.agg #[.int .i64 (v.fact:Int),.int .i64 (v.slot:Int)],.bool true]
 | none=>.tuple #[.agg #[.int .i64 0,.int .i64 0],.bool false]
set_option maxHeartbeats 6400000 in
theorem zhR (pb:Nat) (s:ByteArray) (a:Option Addr) (c:Nat) (vs:List Vr) (w:World) (hp:w.cell? ⟨pb,1,none⟩=some (.slice a vs.length c)) (hv:zfm w a vs) (hl:vs.length≤1048576) :
  Calls Tryz.prog 127 #[.pointer (some ⟨pb,0,none⟩),.string s] w fun e w'=>e=.returned (whV (zaV vs s))∧Below w.heap.size w w':=by
 have HV:=hidP hv
 have hlp:=ziY hp
 clear hv
 go_enter Tryz.func127,Tryz.ntmps127
 go_upto_region 1 with fail
 refine zaj ?_
 intro w0 hW0 hq0
 have BX:=hidP hq0
 have H0:=hidP hW0
 have hp0:=zaa hW0 hp
 have hl0:w.heap.size<w0.heap.size:=zab hq0
 clear hW0 hq0 hp
 go_wp2_with fail
 clear hp0
 go_loopw [13] (fun iv wr=>∃ (k:Nat),iv=.int .i64 (k:Int)∧k≤vs.length∧zaV vs s=zaV (vs.drop k) s∧wr.heap[w.heap.size]?=some (.cells #[.int .i64 0,.int .i64 0] 180 (0,0))∧Below w.heap.size w wr) (fun iv _=>vs.length - (intOf iv).toNat)
 case atStart=>exact ⟨0,rfl,Nat.zero_le _,rfl,BX.out,H0.out⟩
 case round=>
  obtain ⟨k,rfl,hkl,hG,hbx,hb⟩:=hrel
  have HG:=hidP hG
  have BR:=hidP hbx
  have HBW:=hidP hb
  have hlr:w.heap.size<wr.heap.size:=zab hbx
  clear hG hbx hb BX
  by_cases hk:k<vs.length
  ·obtain ⟨v,hv⟩:∃ v,vs[k]?=some v:=⟨vs[k],by simp [hk]⟩
   obtain ⟨b,o,rfl,j0,j1,j2⟩:=(HV.out.below HBW.out) k v hv
   have HD:=hidP (show zaV vs s=if v.name=s then some v else zaV (vs.drop (k+1)) s by rw [HG.out,zan hv,zcY])
   have z0:(0:Int)≤(k:Int):=by omega
   have z1:(k:Int)<(vs.length:Int):=by omega
   clear hv HG
   go_upto_region 4 with fail
   refine zaj ?_
   intro w2 hW2 hq2
   obtain ⟨d0,d1,d2⟩:=cells3P hq2
   have B2:=hidP ((hW2.block _ hlr).trans BR.out)
   have W2:=hidP (HBW.out.trans (hW2.mono HBW.out.size))
   have hl2:wr.heap.size<w2.heap.size:=zab hq2
   clear hW2 hq2 j0 j1 j2 BR HBW
   cases e1:(v.name.toList==s.toList)
   ·have HN:=hidP (show zaV vs s=zaV (vs.drop (k+1)) s by rw [zaM] at e1;rw [HD.out,if_neg (fun h=>by subst h;simp at e1)])
    clear HD
    go_wp2_with fail
    go_roundw
    case rel=>exact ⟨k+1,by go_num,by omega,HN.out,B2.out,W2.out⟩
    case measure=>(simp [intOf];omega)
   ·have HN:=hidP (show zaV vs s=some v by rw [zaM] at e1;rw [HD.out,if_pos (by simpa using e1)])
    have y0:w2.cell? ⟨w.heap.size,0,none⟩=some (.int .i64 0):=by simp [World.cell?,B2.out]
    have y1:w2.cell? ⟨w.heap.size,1,none⟩=some (.int .i64 0):=by simp [World.cell?,B2.out]
    have x0:w2.frozen? ⟨w.heap.size,0,none⟩=false:=by simp [World.frozen?,B2.out]
    have x1:w2.frozen? ⟨w.heap.size,1,none⟩=false:=by simp [World.frozen?,B2.out]
    clear HD
    go_wp2_with fail
    refine bodyPost_ret (v:=whV (some v)) (by simp [results,Tryz.results127,go_sem,y0,y1,whV]) rfl ⟨by rw [HN.out],?_⟩
    exact (W2.out.setCell (by simp) _).setCell (by simp) _
  ·have hke:k=vs.length:=by omega
   subst hke
   have HN:=hidP (show zaV vs s=none by rw [HG.out,List.drop_eq_nil_of_le (Nat.le_refl _)];rfl)
   have hy:¬ (vs.length:Int)<(vs.length:Int):=by omega
   have y0:wr.cell? ⟨w.heap.size,0,none⟩=some (.int .i64 0):=by simp [World.cell?,BR.out]
   have y1:wr.cell? ⟨w.heap.size,1,none⟩=some (.int .i64 0):=by simp [World.cell?,BR.out]
   have x0:wr.frozen? ⟨w.heap.size,0,none⟩=false:=by simp [World.frozen?,BR.out]
   have x1:wr.frozen? ⟨w.heap.size,1,none⟩=false:=by simp [World.frozen?,BR.out]
   go_wp2_with fail
   refine bodyPost_ret (v:=whV none) (by simp [results,Tryz.results127,go_sem,y0,y1,whV]) rfl ⟨by rw [HN.out],?_⟩
   exact (HBW.out.setCell (by simp) _).setCell (by simp) _
end Go.Proofs.YtmmdlgjmplddiaaGreat
namespace Go.Proofs.YtmmdlgjmplddiaaGreat
open Go.RowKit
attribute [local go_sem ↓] Go.wp_at_zero Go.wp_at_succ
def jtOf (vs:List Vr) (ts:List Tm) (i:Nat) (t:Tm):Option Jt:=
 match zaV vs t.var with
 | none=>none
 | some v=>(match earlier ts i t.var with | none=>some ⟨i,tmOp t,v.fact,v.slot⟩ | some _=>none)
def zat (vs:List Vr) (ts:List Tm):Nat→List Jt
 | 0=>[]
 | i+1=>zat vs ts i ++ (match ts[i]? with | none=>[] | some t=>(jtOf vs ts i t).toList)
theorem zhV {vs:List Vr}{ts:List Tm}{i:Nat}{t:Tm} (h:ts[i]?=some t):zat vs ts (i+1)=zat vs ts i ++ (jtOf vs ts i t).toList:=by simp [zat,h]
theorem zdI (vs:List Vr) (ts:List Tm):∀ i,(zat vs ts i).length≤i
 | 0=>Nat.le_refl _
 | i+1=>by
  have h1:=zdI vs ts i
  simp only [zat,List.length_append]
  cases ts[i]? with
  | none=>simp;omega
  | some t=>
   cases h:jtOf vs ts i t <;> simp [h] <;> omega
theorem zn2:(Tryz.prog.info? 182).map (fun i=>(i.zero,i.size,i.bytes))=some (some (.agg #[.int .i64 0,.int .i64 0,.int .i64 0,.int .i64 0]),4,32):=by kernel_rfl
theorem znz (t:Jt):∀ u∈zco t,u.oneCell'=true:=by
 intro u hu
 simp [zco] at hu
 rcases hu with rfl | rfl | rfl | rfl <;> rfl
theorem zay {w w':World}{ob:Option Nat}{b o:Nat} (h:w.grownBy w' ob) (hne:ob≠some b) (hl:b<w.heap.size):w'.cell? ⟨b,o,none⟩=w.cell? ⟨b,o,none⟩:=by
 unfold World.cell?
 rw [h.block b hl (fun e=>hne e.symm)]
theorem cells6P {w:World}{b:Nat}{ty:TypeId}{x0 x1 x2 x3 x4 x5:Value} (h:w.heap[b]?=some (.cells #[x0,x1,x2,x3,x4,x5] ty (0,0))):w.cell? ⟨b,0,none⟩=some x0∧w.cell? ⟨b,1,none⟩=some x1∧w.cell? ⟨b,2,none⟩=some x2∧w.cell? ⟨b,3,none⟩=some x3∧w.cell? ⟨b,4,none⟩=some x4∧w.cell? ⟨b,5,none⟩=some x5:=by
 refine ⟨?_,?_,?_,?_,?_,?_⟩ <;> simp [World.cell?,h]
theorem cells2P {w:World}{b:Nat}{ty:TypeId}{x0 x1:Value} (h:w.heap[b]?=some (.cells #[x0,x1] ty (0,0))):w.cell? ⟨b,0,none⟩=some x0∧w.cell? ⟨b,1,none⟩=some x1:=by
 refine ⟨?_,?_⟩ <;> simp [World.cell?,h]
set_option maxRecDepth 100000 in
set_option maxHeartbeats 12800000 in
theorem zgA (pb:Nat) (p:Pt) (a_t:Option Addr) (c_t:Nat) (va:Option Addr) (vc:Nat) (vs:List Vr) {q:Option Nat} (w:World) (hp:w.cell? ⟨pb,1,none⟩=some (.slice va vs.length vc)) (hv:zfm w va vs) (h_t:zch q w a_t p.terms) (hct:p.terms.length≤c_t) (hl:p.terms.length≤1048576) (hvl:vs.length≤1048576) :
  Calls Tryz.prog 92 #[.pointer (some ⟨pb,0,none⟩),.agg #[.bool p.neg,.string p.cls,.slice a_t p.terms.length c_t]] w fun e w'=>(∃ a c,e=.returned (.slice a (zat vs p.terms p.terms.length).length c)∧w'.ownsRow w.heap.size 182 4 (.slice a (zat vs p.terms p.terms.length).length c) (zat vs p.terms p.terms.length).length ((zat vs p.terms p.terms.length).flatMap zco))∧Below w.heap.size w w':=by
 have HV:=hidP hv
 have HT:=hidP h_t
 have HPC:=hidP hp
 clear hv h_t hp
 go_enter Tryz.func92,Tryz.ntmps92
 go_upto_region 1 with fail
 refine zaj ?_
 intro w0 hW0 hq0
 obtain ⟨b0,b1,b2⟩:=cells3P hq0
 have H0:=hidP hW0
 have hs0:=hW0.size
 have hl0:w.heap.size<w0.heap.size:=zab hq0
 clear hW0 hq0
 go_wp2_with fail
 go_loopw [13,5] (fun iv tv wr=>∃ (k:Nat) (a:Option Addr) (c:Nat),iv=.int .i64 (k:Int)∧k≤p.terms.length∧tv=.slice a (zat vs p.terms k).length c∧wr.ownsRow w0.heap.size 182 4 (.slice a (zat vs p.terms k).length c) (zat vs p.terms k).length ((zat vs p.terms k).flatMap zco)∧Below w0.heap.size w0 wr) (fun iv _ _=>p.terms.length - (intOf iv).toNat)
 case atStart=>exact ⟨0,none,0,rfl,Nat.zero_le _,rfl,World.ownsRow_nil _ _ _ _,Below.refl _ _⟩
 case round=>
  obtain ⟨k,a,c,rfl,hkl,rfl,hrow,hb⟩:=hrel
  have ROW:=hidP hrow
  have HBB:=hidP hb
  have HBW:=hidP (H0.out.trans (hb.mono H0.out.size))
  have hsr:=hb.size
  have hjl:=zdI vs p.terms k
  clear hrow hb
  by_cases hk:k<p.terms.length
  ·obtain ⟨t,ht⟩:∃ t,p.terms[k]?=some t:=⟨p.terms[k],by simp [hk]⟩
   obtain ⟨mb,mo,rfl,_,c0,c1,c2,c3,c4,c5⟩:=(HT.out.below HBW.out).get ht
   have HST:=hidP (zhV (vs:=vs) ht)
   have HTK:=hidP ht
   have p0:=zaa HBB.out b0
   have p1:=zaa HBB.out b1
   have p2:=zaa HBB.out b2
   have z0:(0:Int)≤(k:Int):=by omega
   have z1:(k:Int)<(p.terms.length:Int):=by omega
   clear ht
   go_upto_region 5 with fail
   refine zaj ?_
   intro w2 hW2 hq2
   obtain ⟨tb,htb⟩:∃ tb,tb=wr.heap.size:=⟨_,rfl⟩
   rw [← htb] at hq2 ⊢
   obtain ⟨d0,d1,d2,d3,d4,d5⟩:=cells6P hq2
   have R2:=hidP (zai ROW.out hW2)
   have D2:=hidP (HBB.out.trans (hW2.mono HBB.out.size))
   have W2:=hidP (HBW.out.trans (hW2.mono HBW.out.size))
   have s0:=zaa hW2 p0
   have s1:=zaa hW2 p1
   have s2:=zaa hW2 p2
   have hs2:=hW2.size
   have hl2:tb<w2.heap.size:=zab hq2
   have HNT:=hidP (fun g (hg:(Value.slice a (zat vs p.terms k).length c).ownBlock=some g)=>(show g<tb by have:=(ROW.out.lt g hg).2;omega))
   have HWH:=hidP (zhR pb t.var va vc vs w2 (zaa W2.out HPC.out) (HV.out.below W2.out) hvl)
   have hl2':w0.heap.size≤tb:=by omega
   clear hW2 hq2 c0 c1 c2 c3 c4 c5 p0 p1 p2 ROW HBB HBW htb
   cases hlk:zaV vs t.var with
   | none=>
    have HN:=hidP (show zat vs p.terms (k+1)=zat vs p.terms k by rw [HST.out];simp [jtOf,hlk])
    rw [hlk] at HWH
    unfold whV at HWH
    clear hlk
    go_wp2_with fail
    refine HWH.out.mono ?_
    rintro e w3 ⟨rfl,hb3⟩
    have B3:=hidP hb3
    clear hb3 HWH
    go_upto_region 6 with fail
    refine zaj ?_
    intro w4 hW4 hq4
    have R4:=hidP (zai (zai R2.out B3.out) hW4)
    have D4:=hidP ((D2.out.trans (B3.out.mono D2.out.size)).trans (hW4.mono (D2.out.trans (B3.out.mono D2.out.size)).size))
    clear hW4 hq4
    go_wp2_with fail
    go_roundw
    case rel=>exact ⟨k+1,a,c,by go_num,by omega,by rw [HN.out],by rw [HN.out];exact R4.out,D4.out⟩
    case measure=>(simp [intOf];omega)
   | some v=>
    rw [hlk] at HWH
    unfold whV at HWH
    go_wp2_with fail
    refine HWH.out.mono ?_
    rintro e w3 ⟨rfl,hb3⟩
    have B3:=hidP hb3
    have R3:=hidP (zai R2.out hb3)
    have D3:=hidP (D2.out.trans (hb3.mono D2.out.size))
    have W3:=hidP (W2.out.trans (hb3.mono W2.out.size))
    have f0:=zaa hb3 d0
    have f1:=zaa hb3 d1
    have f2:=zaa hb3 d2
    have f3:=zaa hb3 d3
    have f4:=zaa hb3 d4
    have f5:=zaa hb3 d5
    have u0:=zaa hb3 s0
    have u1:=zaa hb3 s1
    have u2:=zaa hb3 s2
    have hs3:=hb3.size
    clear hb3 HWH d0 d1 d2 d3 d4 d5 s0 s1 s2 R2 D2 W2 B3
    go_upto_region 6 with fail
    refine zaj ?_
    intro w4 hW4 hq4
    obtain ⟨qb,hqb⟩:∃ qb,qb=w3.heap.size:=⟨_,rfl⟩
    rw [← hqb] at hq4 ⊢
    obtain ⟨v0,v1⟩:=cells2P hq4
    have R4:=hidP (zai R3.out hW4)
    have D4:=hidP (D3.out.trans (hW4.mono D3.out.size))
    have W4:=hidP (W3.out.trans (hW4.mono W3.out.size))
    have g0:=zaa hW4 f0
    have g1:=zaa hW4 f1
    have g2:=zaa hW4 f2
    have g3:=zaa hW4 f3
    have g4:=zaa hW4 f4
    have g5:=zaa hW4 f5
    have n0:=zaa hW4 u0
    have n1:=zaa hW4 u1
    have n2:=zaa hW4 u2
    have hs4:=hW4.size
    have hl4:qb<w4.heap.size:=zab hq4
    have HBD:=hidP (zhP p _ c_t k t w4 (HT.out.below W4.out) HTK.out hl hct)
    have htq:tb<qb:=by omega
    clear hqb hW4 hq4 f0 f1 f2 f3 f4 f5 u0 u1 u2 R3 D3 W3
    cases hea:earlier p.terms k t.var with
    | some e0=>
     have HN:=hidP (show zat vs p.terms (k+1)=zat vs p.terms k by rw [HST.out];simp [jtOf,hlk,hea])
     rw [hea] at HBD
     simp only [atI] at HBD
     have e01:((e0:Int) == -1)=false:=by simp
     clear hlk hea
     go_wp2_with fail
     refine HBD.out.mono ?_
     rintro e w5 ⟨rfl,hb5⟩
     have R5:=hidP (zai R4.out hb5)
     have D5:=hidP (D4.out.trans (hb5.mono D4.out.size))
     clear hb5 HBD
     go_wp2_with fail
     go_roundw
     case rel=>exact ⟨k+1,a,c,by go_num,by omega,by rw [HN.out],by rw [HN.out];exact R5.out,D5.out⟩
     case measure=>(simp [intOf];omega)
    | none=>
     have HN:=hidP (show zat vs p.terms (k+1)=zat vs p.terms k ++ [⟨k,tmOp t,v.fact,v.slot⟩] by rw [HST.out];simp [jtOf,hlk,hea])
     rw [hea] at HBD
     simp only [atI] at HBD
     clear hlk hea
     go_wp2_with fail
     refine HBD.out.mono ?_
     rintro e w5 ⟨rfl,hb5⟩
     have R5:=hidP (zai R4.out hb5)
     have D5:=hidP (D4.out.trans (hb5.mono D4.out.size))
     have x0:=zaa hb5 g0
     have x1:=zaa hb5 g1
     have x2:=zaa hb5 g2
     have x3:=zaa hb5 g3
     have x4:=zaa hb5 g4
     have x5:=zaa hb5 g5
     have y0:=zaa hb5 v0
     have y1:=zaa hb5 v1
     have hs5:=hb5.size
     have hneT:(Value.slice a (zat vs p.terms k).length c).ownBlock≠some tb:=fun e=>by have:=HNT.out _ e;omega
     have hneQ:(Value.slice a (zat vs p.terms k).length c).ownBlock≠some qb:=fun e=>by have:=HNT.out _ e;omega
     have HOP:=hidP (fun w'=>zet t w')
     clear hb5 HBD g0 g1 g2 g3 g4 g5 v0 v1 n0 n1 n2 R4 D4 W4
     go_wp2_with fail
     refine wp_region_noPanic ?_
     refine wp_region_held_drew (S:=(fun w'=>w'.cell? ⟨tb,0,none⟩=some (.int .i64 t.kind)∧w'.cell? ⟨tb,1,none⟩=some (.int .i64 t.op)∧w'.cell? ⟨tb,2,none⟩=some (.string t.var)∧w'.cell? ⟨tb,3,none⟩=some (.int .i64 t.val.kind)∧w'.cell? ⟨tb,4,none⟩=some (.int .i64 t.val.num)∧w'.cell? ⟨tb,5,none⟩=some (.string t.val.sym)∧w'.cell? ⟨qb,0,none⟩=some (.int .i64 (v.fact:Int))∧w'.cell? ⟨qb,1,none⟩=some (.int .i64 (v.slot:Int)))) (by kernel_rfl) ?_ (fun hHeld=>?_)
     ·(try dsimp only)
      (go_split_ands;refine ⟨?_,?_,?_,?_,?_,?_,?_,?_⟩ <;> first | (simp [*];done))
     refine tk 0 hHeld ?_
     (try simp only [pA,pZ,pS])
     refine tk 1 hHeld ?_
     (try simp only [pA,pZ,pS])
     refine tk 2 hHeld ?_
     (try simp only [pA,pZ,pS])
     refine tk 4 hHeld ?_
     (try simp only [pA,pZ,pS])
     refine wpAnyH_ready (rs:=[3]) (by kernel_rfl) (by simp) ?_
     refine AllReadyH.cons (o:=?o1) ?ho1 (fun K hK=>?step1) AllReadyH.nil
     case ho1=>(simp only [List.getElem?_toArray,List.getElem?_cons_succ,List.getElem?_cons_zero];rfl)
     go_simp
     (go_at_call 105;refine (HOP.out _).mono ?_;rintro e' w6 ⟨rfl,hb6⟩)
     (try go_wp2_with fail)
     refine hK.out _ _ ?hS2 (fun hHeld'=>?rest2)
     case hS2=>((try dsimp only);(go_split_ands;refine ⟨?_,?_,?_,?_,?_,?_,?_,?_⟩ <;> first | exact zaa hb6 (by assumption)))
     clear hK K
     (first | simp only [pA,pZ,pS] | simp only [pN] | skip)
     clear hHeld
     have hHeld:=hHeld'
     clear hHeld'
     have B6:=hidP (show Below w5.heap.size w5 w6 from (Below.refl w5.heap.size w5).drew.trans (hb6.mono (by simp)))
     have R6:=hidP (zai R5.out B6.out)
     have D6:=hidP (D5.out.trans (B6.out.mono D5.out.size))
     have hs6:=B6.out.size
     have HW6:=hidP (fun o'=>(Below.refl _ _).alloc (Nat.le_refl _) o':∀ o',Below w6.heap.size w6 (w6.alloc o'))
     refine tk 5 hHeld ?_
     (try simp only [pA,pZ,pS])
     refine wpAnyH_ready (rs:=[6]) (by kernel_rfl) (by simp) ?_
     refine AllReadyH.cons (o:=?o3) ?ho3 (fun K hK=>?step3) AllReadyH.nil
     case ho3=>(simp only [List.getElem?_toArray,List.getElem?_cons_succ,List.getElem?_cons_zero];rfl)
     go_simp
     refine hK.out _ _ ?hS4 (fun hHeld'=>?rest4)
     case hS4=>((try dsimp only);(go_split_ands;refine ⟨?_,?_,?_,?_,?_,?_,?_,?_⟩ <;> first | (simp [go_sem, *];done) | exact zaa ((Below.refl _ _).alloc (Nat.le_refl _) _) (by assumption)))
     clear hK K
     (first | simp only [pA,pZ,pS] | simp only [pN] | skip)
     clear hHeld
     have hHeld:=hHeld'
     clear hHeld'
     refine wpAnyH_ready (rs:=[7]) (by kernel_rfl) (by simp) ?_
     refine AllReadyH.cons (o:=?o5) ?ho5 (fun K hK=>?step5) AllReadyH.nil
     case ho5=>(simp only [List.getElem?_toArray,List.getElem?_cons_succ,List.getElem?_cons_zero];rfl)
     (refine zaq (by rfl) (.tmp 32) (.tmp 38) 138 (by rfl) w0.heap.size 182 _ 4 32 Tryz.underlying138 zn2 (by rfl) (by omega) _ (zat vs p.terms k).length _ (by rfl) (zai R6.out (HW6.out _)) (some ⟨_,0,none⟩) 1 1 (by rfl) (zco ⟨k,tmOp t,v.fact,v.slot⟩) (by rfl) (fun e=>by cases e) (zaw _ _ _ _ (by simp)) (znz _) (by unfold maxLen;omega) (by omega) (by simp;omega) ?_;intro a8 c8 w8 ho8 hg8 hl8)
     refine hK.out _ _ ?hS6 (fun hHeld'=>?rest6)
     case hS6=>((try dsimp only);(go_split_ands;refine ⟨?_,?_,?_,?_,?_,?_,?_,?_⟩ <;> first | exact (zay hg8.out hneT (by simp;omega)).trans (by assumption) | exact (zay hg8.out hneQ (by simp;omega)).trans (by assumption)))
     clear hK K
     (first | simp only [pA,pZ,pS] | simp only [pN] | skip)
     clear hHeld
     have hHeld:=hHeld'
     clear hHeld'
     refine tk 8 hHeld ?_
     (try simp only [pA,pZ,pS])
     refine wpAnyH_done (by kernel_rfl) ?_ _
     refine NoPanic.normal ?_
     have R8:=hidP (show w8.ownsRow w0.heap.size 182 4 (.slice a8 (zat vs p.terms (k+1)).length c8) (zat vs p.terms (k+1)).length ((zat vs p.terms (k+1)).flatMap zco) by have:=ho8.out;rw [HN.out];simpa using this)
     have D8:=hidP ((D6.out.trans ((HW6.out _).mono D6.out.size)).grown hg8.out (by simp;omega) (fun g hg=>(R6.out.lt g hg).1))
     have HLN:=hidP (show (zat vs p.terms (k+1)).length=(zat vs p.terms k).length+1 by rw [HN.out];simp)
     clear ho8 hg8 hl8
     go_wp2_with fail
     go_roundw
     case rel=>exact ⟨k+1,a8,c8,by go_num,by omega,by rw [HLN.out],R8.out,D8.out⟩
     case measure=>(simp [intOf];omega)
  ·have hke:k=p.terms.length:=by omega
   subst hke
   have hy:¬ (p.terms.length:Int)<(p.terms.length:Int):=by omega
   go_wp2_with fail
   go_ret
   exact ⟨⟨a,c,rfl,zar ROW.out (by omega)⟩,HBW.out⟩
end Go.Proofs.YtmmdlgjmplddiaaGreat
namespace Go.Proofs.YtmmdlgjmplddiaaGreat
open Go.RowKit
attribute [local go_sem ↓] Go.wp_at_zero Go.wp_at_succ
def PlB (w:World) (pb:Nat) (v0 v1:Value):Prop:=w.heap[pb]?=some (.cells #[v0,v1] 71 (0,0))
theorem PlB.facts {w:World}{b:Nat}{v0 v1:Value} (h:PlB w b v0 v1):(w.cell? ⟨b,0,none⟩=some v0∧w.cell? ⟨b,1,none⟩=some v1)∧(∀ j,w.frozen? ⟨b,j,none⟩=false)∧b<w.heap.size:=by
 unfold PlB at h
 exact ⟨cells2P h,fun j=>by simp [World.frozen?,h],zab h⟩
theorem PlB.set1 {w:World}{b:Nat}{v0 v1:Value} (h:PlB w b v0 v1) (x:Value):PlB (w.setCell ⟨b,1,none⟩ x) b v0 x:=by
 have:=zad (i:=1) h x
 simpa [PlB] using this
theorem PlB.bel {w w':World}{b:Nat}{v0 v1:Value} (h:PlB w b v0 v1) (hb:Below w.heap.size w w'):PlB w' b v0 v1:=(hb.block b (zab h)).trans h
structure Fp (pb:Nat) (row:Option Nat) (w w':World):Prop where
 rest:Below 0 w w'
 block:∀ k,k<w.heap.size→k≠pb→row≠some k→w'.heap[k]?=w.heap[k]?
theorem Fp.refl (pb:Nat) (row:Option Nat) (w:World):Fp pb row w w:=⟨Below.refl _ _,fun _ _ _ _=>rfl⟩
theorem Fp.bel {pb:Nat}{row:Option Nat}{u w w':World} (h:Fp pb row u w) (hb:Below w.heap.size w w'):Fp pb row u w':=⟨h.rest.trans (hb.mono (Nat.zero_le _)),fun k hk h1 h2=>(hb.block k (Nat.lt_of_lt_of_le hk h.rest.size)).trans (h.block k hk h1 h2)⟩
theorem zmu:(Tryz.prog.info? 215).map (fun i=>(i.zero,i.size,i.bytes))=some (some (.agg #[.string ⟨#[]⟩,.int .i64 0,.int .i64 0]),3,32):=by kernel_rfl
theorem zmI (v:Vr):∀ u∈zbA v,u.oneCell'=true:=by
 intro u hu
 simp [zbA] at hu
 rcases hu with rfl | rfl | rfl <;> rfl
theorem zfm.owns {w:World}{base:Nat}{a:Option Addr}{c:Nat}{vs:List Vr} (h:w.ownsRow base 215 3 (.slice a vs.length c) vs.length (vs.flatMap zbA)):zfm w a vs:=by
 intro i v hi
 have key:=fun j u (hj:(zbA v)[j]?=some u)=>zam h (zbe (cells:=zbA) (m:=3) (fun _=>rfl) vs i v j u hi hj)
 obtain ⟨k,rfl,_,h0,_⟩:=key 0 _ rfl
 obtain ⟨k1,e1,_,h1,_⟩:=key 1 _ rfl
 obtain ⟨k2,e2,_,h2,_⟩:=key 2 _ rfl
 cases e1
 cases e2
 exact ⟨k,0,rfl,by simpa using h0,by simpa using h1,by simpa using h2⟩
def zao (vs:List Vr) (ts:List Tm) (n:Nat):Nat→List Vr
 | 0=>vs
 | i+1=>(match ts[i]? with | none=>zao vs ts n i | some t=>if t.kind=2∧zaV (zao vs ts n i) t.var=none then zao vs ts n i ++ [⟨t.var,n,i⟩] else zao vs ts n i)
theorem zct {vs:List Vr}{ts:List Tm}{n i:Nat}{t:Tm} (h:ts[i]?=some t):zao vs ts n (i+1)=if t.kind=2∧zaV (zao vs ts n i) t.var=none then zao vs ts n i ++ [⟨t.var,n,i⟩] else zao vs ts n i:=by simp [zao,h]
theorem zcj (vs:List Vr) (ts:List Tm) (n:Nat):∀ i,(zao vs ts n i).length≤vs.length+i
 | 0=>Nat.le_refl _
 | i+1=>by
  have h1:=zcj vs ts n i
  simp only [zao]
  cases ts[i]? with
  | none=>simp only;omega
  | some t=>
   simp only
   split
   ·simp;omega
   ·omega
theorem Fp.step {pb:Nat}{row row':Option Nat}{u wr w4 w7 w8:World}{x:Value} (h:Fp pb row u wr) (hr:∀ g,row'=some g→row=some g∨u.heap.size≤g) (h4:Below wr.heap.size wr w4) (h7:Below w4.heap.size w4 w7) (hg:w7.grownBy w8 row'):Fp pb row u (w8.setCell ⟨pb,1,none⟩ x):=by
 have ht:Turned w8 (w8.setCell ⟨pb,1,none⟩ x) pb:=Turned.setCells [x] 1 w8 pb
 refine ⟨((((h.rest.trans (h4.mono (Nat.zero_le _))).trans (h7.mono (Nat.zero_le _))).grown hg (Nat.zero_le _) (fun _ _=>Nat.zero_le _)).trans (ht.below (Nat.zero_le _))),fun k hk h1 h2=>?_⟩
 have k1:k<wr.heap.size:=Nat.lt_of_lt_of_le hk h.rest.size
 have k4:k<w4.heap.size:=Nat.lt_of_lt_of_le k1 h4.size
 have k7:k<w7.heap.size:=Nat.lt_of_lt_of_le k4 h7.size
 rw [ht.block k h1,hg.block k k7 (fun e=>by rcases hr k e.symm with h' | h';exact h2 h';omega),h7.block k k4,h4.block k k1]
 exact h.block k hk h1 h2
set_option maxRecDepth 100000 in
set_option maxHeartbeats 12800000 in
theorem zdj (pb n:Nat) (p:Pt) (a_t:Option Addr) (c_t:Nat) (va:Option Addr) (vc:Nat) (vs:List Vr) (v0:Value) (B:Nat) {q:Option Nat} (wA w:World) (hA:Below wA.heap.size wA w) (h_t:zch q wA a_t p.terms) (hP:PlB w pb v0 (.slice va vs.length vc)) (hO:w.ownsRow B 215 3 (.slice va vs.length vc) vs.length (vs.flatMap zbA)) (hAB:wA.heap.size≤B) (hAp:wA.heap.size≤pb) (hB:B≤w.heap.size) (hl:p.terms.length≤1000) (hvl:vs.length≤1000) :
  Calls Tryz.prog 93 #[.pointer (some ⟨pb,0,none⟩),.agg #[.bool p.neg,.string p.cls,.slice a_t p.terms.length c_t],.int .i64 (n:Int)] w fun e w'=>e=.returned (.tuple #[])∧(∃ va' vc',PlB w' pb v0 (.slice va' (zao vs p.terms n p.terms.length).length vc')∧w'.ownsRow B 215 3 (.slice va' (zao vs p.terms n p.terms.length).length vc') (zao vs p.terms n p.terms.length).length ((zao vs p.terms n p.terms.length).flatMap zbA)∧(∀ g,(Value.slice va' (zao vs p.terms n p.terms.length).length vc').ownBlock=some g→(Value.slice va vs.length vc).ownBlock=some g∨w.heap.size≤g))∧Fp pb (Value.slice va vs.length vc).ownBlock w w'∧Below wA.heap.size wA w':=by
 have HT:=hidP h_t
 have HAA:=hidP hA
 have HPP:=hidP hP
 have HOO:=hidP hO
 have hpw:=zab hP
 clear h_t hA hP hO
 go_enter Tryz.func93,Tryz.ntmps93
 go_upto_region 1 with fail
 refine zaj ?_
 intro w0 hW0 hq0
 obtain ⟨b0,b1,b2⟩:=cells3P hq0
 have H0:=hidP hW0
 have P0:=hidP (HPP.out.bel hW0)
 have O0:=hidP (zai HOO.out hW0)
 have F0:=hidP ((Fp.refl pb (Value.slice va vs.length vc).ownBlock w).bel hW0)
 have A0:=hidP (HAA.out.trans (hW0.mono HAA.out.size))
 have hs0:=hW0.size
 clear hW0 hq0 HPP HOO HAA
 go_wp2_with fail
 clear b0 b1 b2
 go_loopw [13] (fun iv wr=>∃ (k:Nat) (va':Option Addr) (vc':Nat) (U:List Vr),iv=.int .i64 (k:Int)∧k≤p.terms.length∧zao vs p.terms n k=U∧PlB wr pb v0 (.slice va' U.length vc')∧wr.ownsRow B 215 3 (.slice va' U.length vc') U.length (U.flatMap zbA)∧Fp pb (Value.slice va vs.length vc).ownBlock w wr∧(∀ g,(Value.slice va' U.length vc').ownBlock=some g→(Value.slice va vs.length vc).ownBlock=some g∨w.heap.size≤g)∧w.heap.size≤wr.heap.size∧Below wA.heap.size wA wr) (fun iv _=>p.terms.length - (intOf iv).toNat)
 case atStart=>exact ⟨0,va,vc,vs,rfl,Nat.zero_le _,rfl,P0.out,O0.out,F0.out,fun g hg=>.inl hg,hs0,A0.out⟩
 case round=>
  obtain ⟨k,va',vc',U,rfl,hkl,hU,hPr,hOr,hFr,hRr,hsr,hAr⟩:=hrel
  have HU:=hidP hU
  have PR:=hidP hPr
  have OR:=hidP hOr
  have FPR:=hidP hFr
  have HRB:=hidP hRr
  have AR:=hidP hAr
  have hUl:U.length≤2000:=by
   have:=zcj vs p.terms n k
   rw [hU] at this
   omega
  have hpr:=zab hPr
  clear hU hPr hOr hFr hRr hAr P0 O0 F0 A0
  by_cases hk:k<p.terms.length
  ·obtain ⟨t,ht⟩:∃ t,p.terms[k]?=some t:=⟨p.terms[k],by simp [hk]⟩
   obtain ⟨mb,mo,rfl,_,c0,c1,c2,c3,c4,c5⟩:=(HT.out.below AR.out).get ht
   have HST:=hidP (zct (vs:=vs) (n:=n) ht)
   rw [HU.out] at HST
   have z0:(0:Int)≤(k:Int):=by omega
   have z1:(k:Int)<(p.terms.length:Int):=by omega
   clear ht
   go_upto_region 4 with fail
   refine zaj ?_
   intro w2 hW2 hq2
   obtain ⟨tb,htb⟩:∃ tb,tb=wr.heap.size:=⟨_,rfl⟩
   rw [← htb] at hq2 ⊢
   obtain ⟨d0,d1,d2,d3,d4,d5⟩:=cells6P hq2
   have D2:=hidP hW2
   have hs2:=hW2.size
   have hl2:tb<w2.heap.size:=zab hq2
   have hptb:pb<tb:=by omega
   have HNT:=hidP (fun g (hg:(Value.slice va' U.length vc').ownBlock=some g)=>(show g<tb by have:=(OR.out.lt g hg).2;omega))
   have hneP:(Value.slice va' U.length vc').ownBlock≠some pb:=fun e=>by
    obtain ⟨cc,hcc⟩:=zah OR.out e
    exact zaF hcc PR.out (by decide)
   have HWH:=hidP (zhR pb t.var va' vc' U w2 (PR.out.bel hW2).facts.1.2 (zfm.owns (zai OR.out hW2)) (by omega))
   clear hW2 hq2 c0 c1 c2 c3 c4 c5 htb
   by_cases hk2:t.kind=2
   ·have b2':(t.kind==2)=true:=by simpa using hk2
    cases hlk:zaV U t.var with
    | some x=>
     have HN:=hidP (show zao vs p.terms n (k+1)=U by rw [HST.out,if_neg (by rw [hlk];simp)])
     rw [hlk] at HWH
     unfold whV at HWH
     clear hlk hk2
     go_wp2_with fail
     refine HWH.out.mono ?_
     rintro e w3 ⟨rfl,hb3⟩
     have D3:=hidP (D2.out.trans (hb3.mono D2.out.size))
     have f0:=zaa hb3 d0
     have f2:=zaa hb3 d2
     have hs3:=hb3.size
     clear hb3 HWH d0 d1 d2 d3 d4 d5 D2
     go_upto_region 5 with fail
     refine zaj ?_
     intro w4 hW4 hq4
     have D4:=hidP (D3.out.trans (hW4.mono D3.out.size))
     have g0:=zaa hW4 f0
     have g2:=zaa hW4 f2
     have hs4:=hW4.size
     clear hW4 hq4 f0 f2 D3
     go_wp2_with fail
     go_roundw
     case rel=>exact ⟨k+1,va',vc',U,by go_num,by omega,HN.out,PR.out.bel D4.out,zai OR.out D4.out,FPR.out.bel D4.out,HRB.out,by have:=D4.out.size;omega,AR.out.trans (D4.out.mono AR.out.size)⟩
     case measure=>(simp [intOf];omega)
    | none=>
     have HN:=hidP (show zao vs p.terms n (k+1)=U ++ [⟨t.var,n,k⟩] by rw [HST.out,if_pos ⟨hk2,hlk⟩])
     rw [hlk] at HWH
     unfold whV at HWH
     clear hlk hk2
     go_wp2_with fail
     refine HWH.out.mono ?_
     rintro e w3 ⟨rfl,hb3⟩
     have D3:=hidP (D2.out.trans (hb3.mono D2.out.size))
     have f0:=zaa hb3 d0
     have f2:=zaa hb3 d2
     have hs3:=hb3.size
     clear hb3 HWH d0 d1 d2 d3 d4 d5 D2
     go_upto_region 5 with fail
     refine zaj ?_
     intro w4 hW4 hq4
     have D4:=hidP (D3.out.trans (hW4.mono D3.out.size))
     have g0:=zaa hW4 f0
     have g2:=zaa hW4 f2
     have hs4:=hW4.size
     clear hW4 hq4 f0 f2 D3
     have P4:=hidP (PR.out.bel D4.out)
     have R4:=hidP (zai OR.out D4.out)
     have HW4:=hidP (fun o'=>(Below.refl w4.heap.size w4).drew.alloc (by simp) o':∀ o',Below w4.heap.size w4 (w4.drew.alloc o'))
     have A4:=hidP (AR.out.trans (D4.out.mono AR.out.size))
     have q1:w4.cell? ⟨pb,1,none⟩=some (.slice va' U.length vc'):=P4.out.facts.1.2
     have q5:∀ o,(w4.drew.alloc o).cell? ⟨pb,1,none⟩=some (.slice va' U.length vc'):=fun o=>(P4.out.bel (HW4.out o)).facts.1.2
     have hneT:(Value.slice va' U.length vc').ownBlock≠some tb:=fun e=>by have:=HNT.out _ e;omega
     have htp:tb≠pb:=by omega
     have hp4:pb<w4.heap.size:=by omega
     have hB4:B≤w4.heap.size:=by omega
     go_wp2_with fail
     refine wp_region_noPanic ?_
     refine wp_region_held_drew (S:=(fun w'=>w'.cell? ⟨tb,2,none⟩=some (.string t.var))) (by kernel_rfl) ?_ (fun hHeld=>?_)
     ·(try dsimp only)
      (first | (simp [*];done) | assumption)
     refine tk 0 hHeld ?_
     (try simp only [pA,pZ,pS])
     refine tk 1 hHeld ?_
     (try simp only [pA,pZ,pS])
     refine tk 2 hHeld ?_
     (try simp only [pA,pZ,pS])
     refine tk 3 hHeld ?_
     (try simp only [pA,pZ,pS])
     refine tk 5 hHeld ?_
     (try simp only [pA,pZ,pS])
     refine tk 6 hHeld ?_
     (try simp only [pA,pZ,pS])
     refine tk 7 hHeld ?_
     (try simp only [pA,pZ,pS])
     refine tk 8 hHeld ?_
     (try simp only [pA,pZ,pS])
     refine tk 9 hHeld ?_
     (try simp only [pA,pZ,pS])
     refine tk 10 hHeld ?_
     (try simp only [pA,pZ,pS])
     refine wpAnyH_ready (rs:=[4,11]) (by kernel_rfl) (by simp) ?_
     refine AllReadyH.cons (o:=?o1) ?ho1 (fun K hK=>?step1) (AllReadyH.cons (o:=?o2) ?ho2 (fun K hK=>?step2) AllReadyH.nil)
     case ho1=>(simp only [List.getElem?_toArray,List.getElem?_cons_succ,List.getElem?_cons_zero];rfl)
     case ho2=>(simp only [List.getElem?_toArray,List.getElem?_cons_succ,List.getElem?_cons_zero];rfl)
     case step1=>
      go_simp
      refine hK.out _ _ ?hS3 (fun hHeld'=>?rest3)
      case hS3=>((try dsimp only);(first | (simp [*];done) | assumption))
      clear hK K
      (first | simp only [pA,pZ,pS] | simp only [pN] | skip)
      clear hHeld
      have hHeld:=hHeld'
      clear hHeld'
      refine wpAnyH_ready (rs:=[11]) (by kernel_rfl) (by simp) ?_
      refine AllReadyH.cons (o:=?o4) ?ho4 (fun K hK=>?step4) AllReadyH.nil
      case ho4=>(simp only [List.getElem?_toArray,List.getElem?_cons_succ,List.getElem?_cons_zero];rfl)
      go_simp
      refine hK.out _ _ ?hS5 (fun hHeld'=>?rest5)
      case hS5=>((try dsimp only);(first | (simp [go_sem, *];done) | exact zaa ((Below.refl _ _).alloc (Nat.le_refl _) _) (by assumption)))
      clear hK K
      (first | simp only [pA,pZ,pS] | simp only [pN] | skip)
      clear hHeld
      have hHeld:=hHeld'
      clear hHeld'
      refine wpAnyH_ready (rs:=[12]) (by kernel_rfl) (by simp) ?_
      refine AllReadyH.cons (o:=?o6) ?ho6 (fun K hK=>?step6) AllReadyH.nil
      case ho6=>(simp only [List.getElem?_toArray,List.getElem?_cons_succ,List.getElem?_cons_zero];rfl)
      (refine zaq (by rfl) (.tmp 36) (.tmp 43) 69 (by rfl) B 215 _ 3 32 Tryz.underlying69 zmu (by rfl) (by omega) _ U.length _ (by rfl) (zai R4.out (HW4.out _)) (some ⟨_,0,none⟩) 1 1 (by rfl) (zbA ⟨t.var,n,k⟩) (by rfl) (fun e=>by cases e) (zaw _ _ _ _ (by simp)) (zmI _) (by unfold maxLen;omega) (by omega) (by simp;omega) ?_;intro a8 c8 w8 ho8 hg8 hl8;have P8:=hidP (show PlB w8 pb v0 (.slice va' U.length vc') from (hg8.out.block pb (by simp;omega) (fun e=>hneP e.symm)).trans (((HW4.out _).block pb (by omega)).trans P4.out));obtain ⟨⟨_,m1⟩,zz,_⟩:=P8.out.facts;have z1:=zz 1;clear zz)
      refine hK.out _ _ ?hS7 (fun hHeld'=>?rest7)
      case hS7=>((try dsimp only);(first | exact (zay hg8.out hneT (by simp;omega)).trans (by assumption)))
      clear hK K
      (first | simp only [pA,pZ,pS] | simp only [pN] | skip)
      clear hHeld
      have hHeld:=hHeld'
      clear hHeld'
      refine tk 13 hHeld ?_
      (try simp only [pA,pZ,pS])
      refine tk 14 hHeld ?_
      (try simp only [pA,pZ,pS])
      refine wpAnyH_ready (rs:=[15]) (by kernel_rfl) (by simp) ?_
      refine AllReadyH.cons (o:=?o8) ?ho8 (fun K hK=>?step8) AllReadyH.nil
      case ho8=>(simp only [List.getElem?_toArray,List.getElem?_cons_succ,List.getElem?_cons_zero];rfl)
      go_simp
      refine hK.out _ _ ?hS9 (fun hHeld'=>?rest9)
      case hS9=>((try dsimp only);(first | (simp [go_sem, *];done)))
      clear hK K
      (first | simp only [pA,pZ,pS] | simp only [pN] | skip)
      clear hHeld
      have hHeld:=hHeld'
      clear hHeld'
      refine wpAnyH_done (by kernel_rfl) ?_ _
      refine NoPanic.normal ?_
      have R8:=hidP (show w8.ownsRow B 215 3 (.slice a8 (U.length+1) c8) (U.length+1) ((U ++ [(⟨t.var,n,k⟩:Vr)]).flatMap zbA) by have:=ho8.out;simpa using this)
      have P9:=hidP (P8.out.set1 (.slice a8 (U.length+1) c8))
      have R9:=hidP (zbI (o:=1) (x:=.slice a8 (U.length+1) c8) R8.out P8.out (by decide))
      have F9:=hidP (Fp.step (x:=.slice a8 (U.length+1) c8) FPR.out HRB.out D4.out (HW4.out _) hg8.out)
      have hrow9:=hidP (show ∀ g,(Value.slice a8 (U.length+1) c8).ownBlock=some g→(Value.slice va vs.length vc).ownBlock=some g∨w.heap.size≤g by intro g hg;rcases hl8.out with h | h;exact HRB.out g (by rw [← h];exact hg);right;rw [h] at hg;injection hg with hg;simp at hg;omega)
      have A9:=hidP ((((A4.out.trans ((HW4.out _).mono A4.out.size)).grown hg8.out (by have:=A4.out.size;simp;omega) (fun g hg=>Nat.le_trans hAB (R4.out.lt g hg).1)).setCell (p:=⟨pb,1,none⟩) hAp (.slice a8 (U.length+1) c8)))
      clear ho8 hg8 hl8
      go_wp2_with fail
      go_roundw
      case rel=>exact ⟨k+1,a8,c8,U ++ [⟨t.var,n,k⟩],by go_num,by omega,by rw [HN.out],by simpa using P9.out,by simpa using R9.out,F9.out,by simpa using hrow9.out,by have:=F9.out.rest.size;omega,A9.out⟩
      case measure=>(simp [intOf];omega)
     case step2=>
      go_simp
      refine hK.out _ _ ?hS10 (fun hHeld'=>?rest10)
      case hS10=>((try dsimp only);(first | (simp [go_sem, *];done) | exact zaa ((Below.refl _ _).alloc (Nat.le_refl _) _) (by assumption)))
      clear hK K
      (first | simp only [pA,pZ,pS] | simp only [pN] | skip)
      clear hHeld
      have hHeld:=hHeld'
      clear hHeld'
      refine wpAnyH_ready (rs:=[4]) (by kernel_rfl) (by simp) ?_
      refine AllReadyH.cons (o:=?o11) ?ho11 (fun K hK=>?step11) AllReadyH.nil
      case ho11=>(simp only [List.getElem?_toArray,List.getElem?_cons_succ,List.getElem?_cons_zero];rfl)
      go_simp
      refine hK.out _ _ ?hS12 (fun hHeld'=>?rest12)
      case hS12=>((try dsimp only);(first | assumption))
      clear hK K
      (first | simp only [pA,pZ,pS] | simp only [pN] | skip)
      clear hHeld
      have hHeld:=hHeld'
      clear hHeld'
      refine wpAnyH_ready (rs:=[12]) (by kernel_rfl) (by simp) ?_
      refine AllReadyH.cons (o:=?o13) ?ho13 (fun K hK=>?step13) AllReadyH.nil
      case ho13=>(simp only [List.getElem?_toArray,List.getElem?_cons_succ,List.getElem?_cons_zero];rfl)
      (refine zaq (by rfl) (.tmp 36) (.tmp 43) 69 (by rfl) B 215 _ 3 32 Tryz.underlying69 zmu (by rfl) (by omega) _ U.length _ (by rfl) (zai R4.out (HW4.out _)) (some ⟨_,0,none⟩) 1 1 (by rfl) (zbA ⟨t.var,n,k⟩) (by rfl) (fun e=>by cases e) (zaw _ _ _ _ (by simp)) (zmI _) (by unfold maxLen;omega) (by omega) (by simp;omega) ?_;intro a8 c8 w8 ho8 hg8 hl8;have P8:=hidP (show PlB w8 pb v0 (.slice va' U.length vc') from (hg8.out.block pb (by simp;omega) (fun e=>hneP e.symm)).trans (((HW4.out _).block pb (by omega)).trans P4.out));obtain ⟨⟨_,m1⟩,zz,_⟩:=P8.out.facts;have z1:=zz 1;clear zz)
      refine hK.out _ _ ?hS14 (fun hHeld'=>?rest14)
      case hS14=>((try dsimp only);(first | exact (zay hg8.out hneT (by simp;omega)).trans (by assumption)))
      clear hK K
      (first | simp only [pA,pZ,pS] | simp only [pN] | skip)
      clear hHeld
      have hHeld:=hHeld'
      clear hHeld'
      refine tk 13 hHeld ?_
      (try simp only [pA,pZ,pS])
      refine tk 14 hHeld ?_
      (try simp only [pA,pZ,pS])
      refine wpAnyH_ready (rs:=[15]) (by kernel_rfl) (by simp) ?_
      refine AllReadyH.cons (o:=?o15) ?ho15 (fun K hK=>?step15) AllReadyH.nil
      case ho15=>(simp only [List.getElem?_toArray,List.getElem?_cons_succ,List.getElem?_cons_zero];rfl)
      go_simp
      refine hK.out _ _ ?hS16 (fun hHeld'=>?rest16)
      case hS16=>((try dsimp only);(first | (simp [go_sem, *];done)))
      clear hK K
      (first | simp only [pA,pZ,pS] | simp only [pN] | skip)
      clear hHeld
      have hHeld:=hHeld'
      clear hHeld'
      refine wpAnyH_done (by kernel_rfl) ?_ _
      refine NoPanic.normal ?_
      have R8:=hidP (show w8.ownsRow B 215 3 (.slice a8 (U.length+1) c8) (U.length+1) ((U ++ [(⟨t.var,n,k⟩:Vr)]).flatMap zbA) by have:=ho8.out;simpa using this)
      have P9:=hidP (P8.out.set1 (.slice a8 (U.length+1) c8))
      have R9:=hidP (zbI (o:=1) (x:=.slice a8 (U.length+1) c8) R8.out P8.out (by decide))
      have F9:=hidP (Fp.step (x:=.slice a8 (U.length+1) c8) FPR.out HRB.out D4.out (HW4.out _) hg8.out)
      have hrow9:=hidP (show ∀ g,(Value.slice a8 (U.length+1) c8).ownBlock=some g→(Value.slice va vs.length vc).ownBlock=some g∨w.heap.size≤g by intro g hg;rcases hl8.out with h | h;exact HRB.out g (by rw [← h];exact hg);right;rw [h] at hg;injection hg with hg;simp at hg;omega)
      have A9:=hidP ((((A4.out.trans ((HW4.out _).mono A4.out.size)).grown hg8.out (by have:=A4.out.size;simp;omega) (fun g hg=>Nat.le_trans hAB (R4.out.lt g hg).1)).setCell (p:=⟨pb,1,none⟩) hAp (.slice a8 (U.length+1) c8)))
      clear ho8 hg8 hl8
      go_wp2_with fail
      go_roundw
      case rel=>exact ⟨k+1,a8,c8,U ++ [⟨t.var,n,k⟩],by go_num,by omega,by rw [HN.out],by simpa using P9.out,by simpa using R9.out,F9.out,by simpa using hrow9.out,by have:=F9.out.rest.size;omega,A9.out⟩
      case measure=>(simp [intOf];omega)
   ·have b2':(t.kind==2)=false:=by simpa using hk2
    have HN:=hidP (show zao vs p.terms n (k+1)=U by rw [HST.out,if_neg (fun h=>hk2 h.1)])
    cases hlk:zaV U t.var with
    | some x=>
     rw [hlk] at HWH
     unfold whV at HWH
     clear hlk hk2
     go_wp2_with fail
     refine HWH.out.mono ?_
     rintro e w3 ⟨rfl,hb3⟩
     have D3:=hidP (D2.out.trans (hb3.mono D2.out.size))
     have f0:=zaa hb3 d0
     have f2:=zaa hb3 d2
     have hs3:=hb3.size
     clear hb3 HWH d0 d1 d2 d3 d4 d5 D2
     go_upto_region 5 with fail
     refine zaj ?_
     intro w4 hW4 hq4
     have D4:=hidP (D3.out.trans (hW4.mono D3.out.size))
     have g0:=zaa hW4 f0
     have g2:=zaa hW4 f2
     have hs4:=hW4.size
     clear hW4 hq4 f0 f2 D3
     go_wp2_with fail
     go_roundw
     case rel=>exact ⟨k+1,va',vc',U,by go_num,by omega,HN.out,PR.out.bel D4.out,zai OR.out D4.out,FPR.out.bel D4.out,HRB.out,by have:=D4.out.size;omega,AR.out.trans (D4.out.mono AR.out.size)⟩
     case measure=>(simp [intOf];omega)
    | none=>
     rw [hlk] at HWH
     unfold whV at HWH
     clear hlk hk2
     go_wp2_with fail
     refine HWH.out.mono ?_
     rintro e w3 ⟨rfl,hb3⟩
     have D3:=hidP (D2.out.trans (hb3.mono D2.out.size))
     have f0:=zaa hb3 d0
     have f2:=zaa hb3 d2
     have hs3:=hb3.size
     clear hb3 HWH d0 d1 d2 d3 d4 d5 D2
     go_upto_region 5 with fail
     refine zaj ?_
     intro w4 hW4 hq4
     have D4:=hidP (D3.out.trans (hW4.mono D3.out.size))
     have g0:=zaa hW4 f0
     have g2:=zaa hW4 f2
     have hs4:=hW4.size
     clear hW4 hq4 f0 f2 D3
     go_wp2_with fail
     go_roundw
     case rel=>exact ⟨k+1,va',vc',U,by go_num,by omega,HN.out,PR.out.bel D4.out,zai OR.out D4.out,FPR.out.bel D4.out,HRB.out,by have:=D4.out.size;omega,AR.out.trans (D4.out.mono AR.out.size)⟩
     case measure=>(simp [intOf];omega)
  ·have hke:k=p.terms.length:=by omega
   subst hke
   have hy:¬ (p.terms.length:Int)<(p.terms.length:Int):=by omega
   go_wp2_with fail
   go_end0
   refine ⟨rfl,?_,FPR.out,AR.out⟩
   rw [HU.out]
   exact ⟨va',vc',PR.out,OR.out,HRB.out⟩
end Go.Proofs.YtmmdlgjmplddiaaGreat
namespace Go.Proofs.YtmmdlgjmplddiaaGreat
open Go.RowKit
attribute [local go_sem ↓] Go.wp_at_zero Go.wp_at_succ
theorem hmfP (fn:Fn) (first cap:Array Value) (w:World):(Instr.makeFunc fn first cap).run Tryz.prog w=.ok (.func fn first cap) w:=rfl
def zhp (w:World) (a:Option Addr) (fs:List F):Prop:=∀ (i:Nat) (f:F),fs[i]?=some f→∃ b o pv,a=some ⟨b,o,none⟩∧w.cell? ⟨b,o+i,none⟩=some pv∧zcs w pv f
theorem zhp.below {w w':World}{a:Option Addr}{fs:List F} (h:zhp w a fs) (hb:Below w.heap.size w w'):zhp w' a fs:=by
 intro i f hi
 obtain ⟨b,o,pv,e,h1,h2⟩:=h i f hi
 exact ⟨b,o,pv,e,zaa hb h1,h2.below hb⟩
structure zig (w:World) (cb tb:Nat) (ng ct nd p0 p1 p2:Value) (ta:Option Addr) (n tc:Nat):Prop where
 c0:w.cell? ⟨cb,0,none⟩=some ng
 c1:w.cell? ⟨cb,1,none⟩=some ct
 c2:w.cell? ⟨cb,2,none⟩=some nd
 c3:w.cell? ⟨cb,3,none⟩=some (.slice ta n tc)
 t0:w.cell? ⟨tb,0,none⟩=some p0
 t1:w.cell? ⟨tb,1,none⟩=some p1
 t2:w.cell? ⟨tb,2,none⟩=some p2
theorem zig.below {w w':World}{cb tb:Nat}{ng ct nd p0 p1 p2:Value}{ta:Option Addr}{n tc:Nat} (h:zig w cb tb ng ct nd p0 p1 p2 ta n tc) (hb:Below w.heap.size w w'):zig w' cb tb ng ct nd p0 p1 p2 ta n tc:=
 ⟨zaa hb h.c0,zaa hb h.c1,zaa hb h.c2,zaa hb h.c3,zaa hb h.t0,zaa hb h.t1,zaa hb h.t2⟩
set_option maxHeartbeats 3200000 in
theorem zir (cb tb:Nat) (ng ct nd p0 p1 p2 pf:Value) (ts:List Jt) (ta:Option Addr) (tc:Nat) (T:List F) (f:F) (w:World) (hC:zig w cb tb ng ct nd p0 p1 p2 ta ts.length tc) (h_t:zdM w ta ts) (h_T:zdb w p0 p1 p2 T) (h_f:zcs w pf f) (hl:ts.length≤1048576) (hfit:∀ t∈ts,t.fits T f) :
  Calls Tryz.prog 96 #[pf,.pointer (some ⟨cb,0,none⟩),.pointer (some ⟨tb,0,none⟩)] w fun e w'=>e=.returned (.bool (ts.all (zaI T f)))∧Below w.heap.size w w':=by
 have HA:=hidP (zd6 ng ct nd p0 p1 p2 pf ts ta tc T f w h_t h_T h_f hl hfit)
 obtain ⟨c0,c1,c2,c3,t0,t1,t2⟩:=hC
 clear h_t h_T h_f hfit
 go_enter Tryz.func96,Tryz.ntmps96
 go_wp2_with fail
 refine HA.out.mono ?_
 rintro e w1 ⟨rfl,hb1⟩
 have B1:=hidP hb1
 clear HA hb1
 go_wp2_with fail
 go_ret
 exact ⟨rfl,B1.out⟩
set_option maxHeartbeats 3200000 in
theorem zgQ (cb tb:Nat) (ng ct nd p0 p1 p2:Value) (ts:List Jt) (ta:Option Addr) (tc:Nat) (T:List F) (fs:List F) (fa:Option Addr) (fc:Nat) (w:World) (hC:zig w cb tb ng ct nd p0 p1 p2 ta ts.length tc) (h_t:zdM w ta ts) (h_T:zdb w p0 p1 p2 T) (h_f:zhp w fa fs) (hl:ts.length≤1048576) (hlf:fs.length≤1048576) (hfit:∀ f∈fs,∀ t∈ts,t.fits T f) :
  Calls Tryz.prog 128 #[.slice fa fs.length fc,.func (.func 96) #[] #[.pointer (some ⟨cb,0,none⟩),.pointer (some ⟨tb,0,none⟩)]] w fun e w'=>(∃ n:Int,e=.returned (.int .i64 n)∧decide (0≤n)=fs.any (fun f=>ts.all (zaI T f)))∧Below w.heap.size w w':=by
 have HC:=hidP hC
 have HJ:=hidP h_t
 have HT:=hidP h_T
 have HF:=hidP h_f
 have HFI:=hidP hfit
 clear hC h_t h_T h_f hfit
 go_enter Tryz.func128,Tryz.ntmps128
 go_wp2_with fail
 go_loopw [8] (fun iv wr=>∃ (k:Nat),iv=.int .i64 (k:Int)∧k≤fs.length∧fs.any (fun f=>ts.all (zaI T f))=(fs.drop k).any (fun f=>ts.all (zaI T f))∧Below w.heap.size w wr) (fun iv _=>fs.length - (intOf iv).toNat)
 case atStart=>exact ⟨0,rfl,Nat.zero_le _,rfl,Below.refl _ _⟩
 case round=>
  obtain ⟨k,rfl,hkl,hG,hb⟩:=hrel
  have HG:=hidP hG
  have HBW:=hidP hb
  clear hG hb
  by_cases hk:k<fs.length
  ·obtain ⟨f,hf⟩:∃ f,fs[k]?=some f:=⟨fs[k],by simp [hk]⟩
   obtain ⟨fb,fo,pv,rfl,y0,hpv⟩:=(HF.out.below HBW.out) k f hf
   have HD:=hidP (show fs.any (fun f=>ts.all (zaI T f))=(ts.all (zaI T f) || (fs.drop (k+1)).any (fun f=>ts.all (zaI T f))) by rw [HG.out,zan hf,List.any_cons])
   have HB:=hidP (zir cb tb ng ct nd p0 p1 p2 pv ts ta tc T f wr (HC.out.below HBW.out) (HJ.out.below HBW.out) (HT.out.below HBW.out) hpv hl (HFI.out f (List.mem_of_getElem? hf)))
   have z0:(0:Int)≤(k:Int):=by omega
   have z1:(k:Int)<(fs.length:Int):=by omega
   clear hf hpv HG
   cases hm:ts.all (zaI T f)
   ·have HN:=hidP (show fs.any (fun f=>ts.all (zaI T f))=(fs.drop (k+1)).any (fun f=>ts.all (zaI T f)) by rw [HD.out,hm];rfl)
    rw [hm] at HB
    clear hm HD
    go_wp2_with fail
    refine HB.out.mono ?_
    rintro e w1 ⟨rfl,hb1⟩
    have B1:=hidP (HBW.out.trans (hb1.mono HBW.out.size))
    clear hb1 HB
    go_wp2_with fail
    go_roundw
    case rel=>exact ⟨k+1,by go_num,by omega,HN.out,B1.out⟩
    case measure=>(simp [intOf];omega)
   ·have HN:=hidP (show fs.any (fun f=>ts.all (zaI T f))=true by rw [HD.out,hm];rfl)
    rw [hm] at HB
    clear hm HD
    go_wp2_with fail
    refine HB.out.mono ?_
    rintro e w1 ⟨rfl,hb1⟩
    have B1:=hidP (HBW.out.trans (hb1.mono HBW.out.size))
    clear hb1 HB
    go_wp2_with fail
    go_ret
    exact ⟨⟨k,rfl,by rw [HN.out];exact decide_eq_true z0⟩,B1.out⟩
  ·have hke:k=fs.length:=by omega
   subst hke
   have HN:=hidP (show fs.any (fun f=>ts.all (zaI T f))=false by rw [HG.out,List.drop_eq_nil_of_le (Nat.le_refl _)];rfl)
   have hy:¬ (fs.length:Int)<(fs.length:Int):=by omega
   go_wp2_with fail
   go_ret
   exact ⟨⟨-1,rfl,by rw [HN.out];rfl⟩,HBW.out⟩
set_option maxHeartbeats 3200000 in
theorem zeF (cb tb:Nat) (ng ct nd p0 p1 p2:Value) (ts:List Jt) (ta:Option Addr) (tc:Nat) (T:List F) (fs:List F) (fa:Option Addr) (fc:Nat) (w:World) (hC:zig w cb tb ng ct nd p0 p1 p2 ta ts.length tc) (h_t:zdM w ta ts) (h_T:zdb w p0 p1 p2 T) (h_f:zhp w fa fs) (hl:ts.length≤1048576) (hlf:fs.length≤1048576) (hfit:∀ f∈fs,∀ t∈ts,t.fits T f) :
  Calls Tryz.prog 95 #[.slice fa fs.length fc,.func (.func 96) #[] #[.pointer (some ⟨cb,0,none⟩),.pointer (some ⟨tb,0,none⟩)]] w fun e w'=>e=.returned (.bool (fs.any (fun f=>ts.all (zaI T f))))∧Below w.heap.size w w':=by
 have HI:=hidP (zgQ cb tb ng ct nd p0 p1 p2 ts ta tc T fs fa fc w hC h_t h_T h_f hl hlf hfit)
 clear hC h_t h_T h_f hfit
 go_enter Tryz.func95,Tryz.ntmps95
 go_wp2_with fail
 refine HI.out.mono ?_
 rintro e w1 ⟨⟨n,rfl,hn⟩,hb1⟩
 have B1:=hidP hb1
 have HN:=hidP hn
 clear HI hb1 hn
 go_wp2_with fail
 go_ret
 exact ⟨zac HN.out,B1.out⟩
set_option maxHeartbeats 3200000 in
theorem zge (ng ct p0 p1 p2:Value) (nb:Nat) (ts:List Jt) (ta:Option Addr) (tc:Nat) (T:List F) (fs:List F) (fa:Option Addr) (fc:Nat) (w:World) (h_n:w.cell? ⟨nb,4,none⟩=some (.slice fa fs.length fc)) (h_t:zdM w ta ts) (h_T:zdb w p0 p1 p2 T) (h_f:zhp w fa fs) (hl:ts.length≤1048576) (hlf:fs.length≤1048576) (hfit:∀ f∈fs,∀ t∈ts,t.fits T f) :
  Calls Tryz.prog 57 #[.agg #[ng,ct,.pointer (some ⟨nb,0,none⟩),.slice ta ts.length tc],.agg #[p0,p1,p2]] w fun e w'=>e=.returned (.bool (fs.any (fun f=>ts.all (zaI T f))))∧Below w.heap.size w w':=by
 have HJ:=hidP h_t
 have HT:=hidP h_T
 have HF:=hidP h_f
 have HFI:=hidP hfit
 have hmf:=hmfP
 clear h_t h_T h_f hfit
 go_enter Tryz.func57,Tryz.ntmps57
 go_upto_region 1 with fail
 refine lift2P ?_
 intro w0 hW0 hq0 hq1
 obtain ⟨c0,c1,c2,c3⟩:=cells4P hq0
 obtain ⟨t0,t1,t2⟩:=cells3P hq1
 have HC:=hidP (show zig w0 w.heap.size (w.heap.size+1) ng ct (.pointer (some ⟨nb,0,none⟩)) p0 p1 p2 ta ts.length tc from ⟨c0,c1,c2,c3,t0,t1,t2⟩)
 have H0:=hidP hW0
 have n4:=zaa hW0 h_n
 have HS:=hidP (zeF w.heap.size (w.heap.size+1) ng ct (.pointer (some ⟨nb,0,none⟩)) p0 p1 p2 ts ta tc T fs fa fc w0 HC.out (HJ.out.below hW0) (HT.out.below hW0) (HF.out.below hW0) hl hlf HFI.out)
 clear hW0 hq0 hq1 h_n
 go_wp2_with fail
 refine HS.out.mono ?_
 rintro e w1 ⟨rfl,hb1⟩
 have B1:=hidP (H0.out.trans (hb1.mono H0.out.size))
 clear HS hb1
 go_wp2_with fail
 go_ret
 exact ⟨rfl,B1.out⟩
end Go.Proofs.YtmmdlgjmplddiaaGreat
