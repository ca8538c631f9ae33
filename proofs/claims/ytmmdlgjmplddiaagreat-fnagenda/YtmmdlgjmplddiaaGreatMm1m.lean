/-
  OUR OWN TEXT. The model: a fact agrees with a pattern under binds (written by genmm1.py).
-/
import Derived.Test.YtmmdlgjmplddiaaGreatKau
import Derived.Test.YtmmdlgjmplddiaaGreatKaz
import Derived.Test.YtmmdlgjmplddiaaGreatKas
import Derived.Test.YtmmdlgjmplddiaaGreatKah
import Derived.Deep.DeepCutAuto
namespace Go.Proofs.YtmmdlgjmplddiaaGreat
open Go.RowKit
attribute [local go_sem ↓] Go.wp_at_zero Go.wp_at_succ
theorem hidM {p:Prop} (h:p):Hid p:=h
def za7 (b:Bd):List Value:=[.string b.var,.int .i64 b.val.kind,.int .i64 b.val.num,.string b.val.sym]
theorem zgg:∀ S:List Bd,(S.flatMap za7).length=S.length * 4
 | []=>rfl
 | b :: r=>by
  rw [List.flatMap_cons,List.length_append,zgg r]
  simp [za7]
  omega
theorem znJ (bs:List Bd):∀ x∈bs.flatMap za7,x.oneCell'=true:=by
 intro x hx
 obtain ⟨b,_,hb⟩:=List.mem_flatMap.1 hx
 simp [za7] at hb
 rcases hb with rfl | rfl | rfl | rfl <;> rfl
theorem zpG (bs:List Bd) (j:Nat) (x:Value) (h:(bs.flatMap za7)[j]?=some x):∃ b,bs[j / 4]?=some b∧(za7 b)[j % 4]?=some x:=by
 induction bs generalizing j with
 | nil=>simp at h
 | cons b r ih=>
  have hlen:(za7 b).length=4:=rfl
  rw [List.flatMap_cons] at h
  by_cases hj:j<4
  ·rw [List.getElem?_append_left (by omega)] at h
   refine ⟨b,?_,?_⟩
   ·rw [show j / 4=0 by omega];rfl
   ·rwa [show j % 4=j by omega]
  ·rw [List.getElem?_append_right (by omega)] at h
   obtain ⟨u,h1,h2⟩:=ih (j - (za7 b).length) h
   rw [hlen] at h1 h2
   refine ⟨u,?_,?_⟩
   ·rw [show j / 4=(j - 4) / 4+1 by omega];exact h1
   ·rwa [show j % 4=(j - 4) % 4 by omega]
theorem zct.flat {q:Option Nat}{w:World}{ad:Addr}{bs:List Bd} (h:zct q w (some ad) bs) (j:Nat) (x:Value) (hx:(bs.flatMap za7)[j]?=some x):w.cell? (ad.add j)=some x:=by
 obtain ⟨b,hb,hc⟩:=zpG bs j x hx
 obtain ⟨g,o,r,he,_,_,h4,hR⟩:=h _ b hb
 cases he
 have hR':r=za7 b:=hR
 rw [Addr.add_mid]
 have:=h4 (j % 4) x (by rw [hR'];exact hc)
 rw [show o+j=o+j / 4 * 4+j % 4 by omega]
 exact this
theorem zct.nil' {q:Option Nat}{w:World}{bs:List Bd} (h:zct q w none bs):bs.length=0:=by
 cases bs with
 | nil=>rfl
 | cons v r=>
  obtain ⟨b,o,_,he,_⟩:=h 0 v rfl
  cases he
theorem zct.owns {w:World}{base:Nat}{a:Option Addr}{c:Nat}{S:List Bd} (h:w.ownsRow base 220 4 (.slice a S.length c) S.length (S.flatMap za7)):zct none w a S:=by
 intro i s hi
 have key:=fun j u (hj:(za7 s)[j]?=some u)=>zam h (za5 (cells:=za7) (m:=4) (fun _=>rfl) S i s j u hi hj)
 obtain ⟨g,rfl,_,_,_⟩:=key 0 _ rfl
 refine ⟨g,0,za7 s,rfl,Qb.bare _ _ _,rfl,fun j v hj=>?_,rfl⟩
 obtain ⟨g',e,_,hc,_⟩:=key j v hj
 cases e
 rw [Nat.zero_add]
 exact hc
theorem zk5:(Tryz.prog.info? 220).map (fun i=>(i.zero,i.size,i.bytes))=some (some (.agg #[.string ⟨#[]⟩,.int .i64 0,.int .i64 0,.string ⟨#[]⟩]),4,48):=by kernel_rfl
theorem zjm {P:World→Prop}{w:World}{o1 o2:Obj} (h:∀ wt,Below w.heap.size w wt→wt.heap[w.heap.size]?=some o1→wt.heap[w.heap.size+1]?=some o2→P wt):P ((w.alloc o1).alloc o2):=
 h _ (((Below.refl _ _).alloc (Nat.le_refl _) _).alloc (by simp) _) ((Below.heap_alloc _ _ _ (by simp)).trans (heap_alloc_new _ _)) (by have:=heap_alloc_new (w.alloc o1) o2;simpa using this)
theorem cells3M {w:World}{b:Nat}{ty:TypeId}{x0 x1 x2:Value} (h:w.heap[b]?=some (.cells #[x0,x1,x2] ty (0,0))):w.cell? ⟨b,0,none⟩=some x0∧w.cell? ⟨b,1,none⟩=some x1∧w.cell? ⟨b,2,none⟩=some x2:=by
 refine ⟨?_,?_,?_⟩ <;> simp [World.cell?,h]
theorem cells6M {w:World}{b:Nat}{ty:TypeId}{x0 x1 x2 x3 x4 x5:Value} (h:w.heap[b]?=some (.cells #[x0,x1,x2,x3,x4,x5] ty (0,0))):w.cell? ⟨b,0,none⟩=some x0∧w.cell? ⟨b,1,none⟩=some x1∧w.cell? ⟨b,2,none⟩=some x2∧w.cell? ⟨b,3,none⟩=some x3∧w.cell? ⟨b,4,none⟩=some x4∧w.cell? ⟨b,5,none⟩=some x5:=by
 refine ⟨?_,?_,?_,?_,?_,?_⟩ <;> simp [World.cell?,h]
theorem emM:(⟨#[]⟩:ByteArray).toList=[]:=by kernel_rfl
theorem V.ext3 {v u:V} (h0:v.kind=u.kind) (h1:v.num=u.num) (h2:v.sym.toList=u.sym.toList):v=u:=by
 have h3:(v.sym.toList==u.sym.toList)=true:=by rw [h2];simp
 rw [zaL] at h3
 exact V.same h0 h1 (by simpa using h3)
theorem zjF {w:World}{b o:Nat}{x:Value} (h:w.cell? ⟨b,o,none⟩=some x):b<w.heap.size:=by
 by_cases hp:b<w.heap.size
 ·exact hp
 ·have:w.heap[b]?=none:=Array.getElem?_eq_none (by omega)
  simp [World.cell?,this] at h
theorem zoo {P:World→Prop}{w:World}{b:Nat}{t:TypeId}{x0 x1 x2 y0 y1 y2:Value} (h0:w.heap[b]?=some (.cells #[x0,x1,x2] t (0,0))) (h:∀ wt,wt.heap[b]?=some (.cells #[y0,y1,y2] t (0,0))→Turned w wt b→P wt):P (((w.setCell ⟨b,0,none⟩ y0).setCell ⟨b,1,none⟩ y1).setCell ⟨b,2,none⟩ y2):=by
 have h1:=zaf (i:=0) h0 y0
 have h2:=zaf (i:=1) h1 y1
 have h3:=zaf (i:=2) h2 y2
 exact h _ (by simpa using h3) (Turned.setCells [y0,y1,y2] 0 w b)
def zbA (p:Pt) (f:F) (bs:List Bd) (w:World) (e:Ending) (w':World):Prop:=
 (match agree p f bs with
  | none=>e=.returned (.tuple #[.slice none 0 0,.bool false])
  | some o=>∃ a c,e=.returned (.tuple #[.slice a o.length c,.bool true])∧w'.ownsRow w.heap.size 220 4 (.slice a o.length c) o.length (o.flatMap za7))∧Below w.heap.size w w'
theorem zbA.no {p:Pt}{f:F}{bs:List Bd}{w w':World} (h:agree p f bs=none) (hb:Below w.heap.size w w'):zbA p f bs w (.returned (.tuple #[.slice none 0 0,.bool false])) w':=by
 unfold zbA
 rw [h]
 exact ⟨rfl,hb⟩
theorem zbA.yes {p:Pt}{f:F}{bs o:List Bd}{w w':World}{a:Option Addr}{c:Nat} (h:agree p f bs=some o) (ho:w'.ownsRow w.heap.size 220 4 (.slice a o.length c) o.length (o.flatMap za7)) (hb:Below w.heap.size w w'):zbA p f bs w (.returned (.tuple #[.slice a o.length c,.bool true])) w':=by
 unfold zbA
 rw [h]
 exact ⟨⟨a,c,rfl,ho⟩,hb⟩
set_option maxRecDepth 100000 in
set_option maxHeartbeats 12800000 in
theorem zjc (p:Pt) (f:F) (bs:List Bd) (a_t:Option Addr) (c_t:Nat) (fa:Option Addr) (fc:Nat) (ba:Option Addr) (bc:Nat) {q q':Option Nat} (w:World) (h_t:zcl q w a_t p.terms) (h_f:zaV w fa f.slots) (h_b:zct q' w ba bs) (ht6:p.terms.length≤6) (hbl:bs.length≤1000) :
  Calls Tryz.prog 99 #[.agg #[.bool p.neg,.string p.cls,.slice a_t p.terms.length c_t],.agg #[.int .i64 f.tag,.string f.cls,.slice fa f.slots.length fc],.slice ba bs.length bc] w (zbA p f bs w):=by
 have HT:=hidM h_t
 have HF:=hidM h_f
 have HB:=hidM h_b
 clear h_t h_f h_b
 have B2:=hidM (fun o o1=>((Below.refl _ _).alloc (Nat.le_refl _) _).alloc (by simp) _:∀ o o1,Below w.heap.size w ((w.alloc o).alloc o1))
 cases e1:(p.cls.toList==f.cls.toList)
 ·have HN:=hidM (show agree p f bs=none from if_neg (fun h=>by rw [h.1] at e1;simp at e1))
  have e1':(p.cls.toList != f.cls.toList)=true:=by rw [bne,e1];rfl
  go_enter Tryz.func99,Tryz.ntmps99
  go_wp2_with fail
  refine bodyPost_ret (v:=.tuple #[.slice none 0 0,.bool false]) (by simp [results,Tryz.results99,go_sem]) rfl ?_
  exact zbA.no HN.out (B2.out _ _)
 have e1':(p.cls.toList != f.cls.toList)=false:=by rw [bne,e1];rfl
 cases e2:((p.terms.length:Int)==(f.slots.length:Int))
 ·have HN:=hidM (show agree p f bs=none from if_neg (fun h=>by rw [h.2] at e2;simp at e2))
  have e2':((p.terms.length:Int) != (f.slots.length:Int))=true:=by rw [bne,e2];rfl
  go_enter Tryz.func99,Tryz.ntmps99
  go_wp2_with fail
  refine bodyPost_ret (v:=.tuple #[.slice none 0 0,.bool false]) (by simp [results,Tryz.results99,go_sem]) rfl ?_
  exact zbA.no HN.out (B2.out _ _)
 have e2':((p.terms.length:Int) != (f.slots.length:Int))=false:=by rw [bne,e2];rfl
 have hlen:p.terms.length=f.slots.length:=by simp at e2;omega
 have hcls:p.cls=f.cls:=by rw [zaL] at e1;simpa using e1
 have HAG:=hidM (show agree p f bs=agGo bs p.terms f.slots from if_pos ⟨hcls,hlen⟩)
 have HLEN:=hidM hlen
 clear hlen hcls
 go_enter Tryz.func99,Tryz.ntmps99
 go_upto_region 1 with fail
 refine zjm ?_
 intro w0 hW0 hq1 hq2
 obtain ⟨pb0,pb1,pb2⟩:=cells3M hq1
 obtain ⟨fb0,fb1,fb2⟩:=cells3M hq2
 have H0:=hidM hW0
 have hs0:=hW0.size
 have hl0:w.heap.size+1<w0.heap.size:=zab hq2
 have BD0:=hidM (HB.out.below hW0)
 clear hW0 hq1 hq2
 go_upto_region 5 with (first | (at_builtin;refine zad (by rfl) (.tmp 29) (.tmp 30) 89 (by rfl) w0.heap.size 220 _ 4 48 Tryz.underlying89 zk5 (by rfl) (by omega) _ 0 [] (by rfl) (World.ownsRow_nil _ _ _ _) ba bs.length bc (by rfl) (bs.flatMap za7) (by rw [zgg]) (fun e=>zct.nil' (e ▸ BD0.out)) (fun ad e=>zct.flat (e ▸ BD0.out)) (znJ _) (by unfold maxLen;omega) (by omega) (Nat.le_refl _) ?_;intro a1 c1 w1 ho1 hg1 hl1) | fail)
 have hB01:Below w0.heap.size w0 w1:=⟨hg1.out.os,hg1.out.tape,hg1.out.output,hg1.out.size,fun k hk=>hg1.out.block k hk (fun e=>by cases e)⟩
 have OW1:=hidM (show w1.ownsRow w0.heap.size 220 4 (.slice a1 bs.length c1) bs.length (bs.flatMap za7) by have:=ho1.out;simpa using this)
 have pb2':=zaa hB01 pb2
 have HB01:=hidM hB01
 clear ho1 hg1 hl1 e1 e2 e1' e2' hB01
 go_wp2_with fail
 clear pb2'
 go_loopw [35,8] (fun iv ov wr=>∃ (k:Nat) (o:List Bd) (a:Option Addr) (c:Nat),iv=.int .i64 (k:Int)∧k≤p.terms.length∧ov=.slice a o.length c∧agree p f bs=agGo o (p.terms.drop k) (f.slots.drop k)∧o.length≤bs.length+k∧wr.ownsRow w0.heap.size 220 4 (.slice a o.length c) o.length (o.flatMap za7)∧Below w0.heap.size w0 wr) (fun iv _ _=>p.terms.length - (intOf iv).toNat)
 case atStart=>exact ⟨0,bs,a1,c1,rfl,Nat.zero_le _,rfl,HAG.out,Nat.le_refl _,OW1.out,HB01.out⟩
 case round=>
  obtain ⟨k,o,a,c,rfl,hkl,rfl,hG,hol,hrow,hb⟩:=hrel
  have HG:=hidM hG
  have ROW:=hidM hrow
  have HBB:=hidM hb
  have HBW:=hidM (H0.out.trans (hb.mono H0.out.size))
  have hsr:=hb.size
  clear hG hrow hb HB01 OW1
  by_cases hk:k<p.terms.length
  ·obtain ⟨t,ht⟩:∃ t,p.terms[k]?=some t:=⟨p.terms[k],by simp [hk]⟩
   obtain ⟨v,hv⟩:∃ v,f.slots[k]?=some v:=⟨f.slots[k]'(by have:=HLEN.out;omega),by simp⟩
   have HD:=hidM (zak ht)
   have HD':=hidM (zak hv)
   obtain ⟨tb,tk,rfl,_,t0,t1,t2,t3,t4,t5⟩:=(HT.out.below HBW.out).get ht
   obtain ⟨vb,vo,rfl,v0,v1,v2⟩:=(HF.out.below HBW.out) k v hv
   have pbr:=zaa HBB.out pb2
   have fbr:=zaa HBB.out fb2
   have hl1:w.heap.size+1<wr.heap.size:=by omega
   have hl3:=zjF v0
   have z0:(0:Int)≤(k:Int):=by omega
   have z1:(k:Int)<(p.terms.length:Int):=by omega
   have z2:(k:Int)<(f.slots.length:Int):=by have:=HLEN.out;omega
   have NONE:=hidM (fun (h:agT o t v=none)=>(show agree p f bs=none by rw [HG.out,HD.out,HD'.out];exact zmF h))
   have SOME:=hidM (fun o' (h:agT o t v=some o')=>(show agree p f bs=agGo o' (p.terms.drop (k+1)) (f.slots.drop (k+1)) by rw [HG.out,HD.out,HD'.out];exact zl3 h))
   clear ht hv HD HD' HG
   go_upto_region 9 with fail
   refine zjm ?_
   intro w2 hW2 hq1 hq2
   obtain ⟨k0,k1,k2,k3,k4,k5⟩:=cells6M hq1
   obtain ⟨u0,u1,u2⟩:=cells3M hq2
   have R2:=hidM (zag ROW.out hW2)
   have D2:=hidM (HBB.out.trans (hW2.mono HBB.out.size))
   have hs2:=hW2.size
   have hl2:wr.heap.size+1<w2.heap.size:=zab hq2
   clear hW2 hq1 hq2 t0 t1 t2 t3 t4 t5 v0 v1 v2 pbr fbr ROW HBB HBW
   by_cases hk1:t.kind=1
   ·have b1:(t.kind==1)=true:=by simpa using hk1
    by_cases q0:v.kind=t.val.kind
    rotate_left
    ·have hne:¬ v=t.val:=fun e=>q0 (by rw [e])
     have HNO:=hidM (show agT o t v=none by unfold agT;rw [if_pos hk1,if_neg hne])
     clear hne hk1
     go_wp2_with fail
     refine bodyPost_ret (v:=.tuple #[.slice none 0 0,.bool false]) (by simp [results,Tryz.results99,go_sem]) rfl ?_
     exact zbA.no (NONE.out HNO.out) (H0.out.trans (D2.out.mono H0.out.size))
    by_cases q1:v.num=t.val.num
    rotate_left
    ·have hne:¬ v=t.val:=fun e=>q1 (by rw [e])
     have HNO:=hidM (show agT o t v=none by unfold agT;rw [if_pos hk1,if_neg hne])
     clear hne hk1
     go_wp2_with fail
     refine bodyPost_ret (v:=.tuple #[.slice none 0 0,.bool false]) (by simp [results,Tryz.results99,go_sem]) rfl ?_
     exact zbA.no (NONE.out HNO.out) (H0.out.trans (D2.out.mono H0.out.size))
    by_cases q2:v.sym.toList=t.val.sym.toList
    rotate_left
    ·have hne:¬ v=t.val:=fun e=>q2 (by rw [e])
     have HNO:=hidM (show agT o t v=none by unfold agT;rw [if_pos hk1,if_neg hne])
     clear hne hk1
     go_wp2_with fail
     refine bodyPost_ret (v:=.tuple #[.slice none 0 0,.bool false]) (by simp [results,Tryz.results99,go_sem]) rfl ?_
     exact zbA.no (NONE.out HNO.out) (H0.out.trans (D2.out.mono H0.out.size))
    have heq:v=t.val:=V.ext3 q0 q1 q2
    have HSO:=hidM (show agT o t v=some o by unfold agT;rw [if_pos hk1,if_pos heq])
    clear heq hk1
    go_wp2_with fail
    go_roundw
    case rel=>exact ⟨k+1,o,a,c,by go_num,by omega,rfl,SOME.out _ HSO.out,by omega,R2.out,D2.out⟩
    case measure=>(simp [intOf];omega)
   by_cases hk2:t.kind=2
   ·have b1:(t.kind==1)=false:=by simp;omega
    have b2:(t.kind==2)=true:=by simpa using hk2
    have LB:=hidM (zgd t.var a c o w2 (zct.owns R2.out) (by omega))
    cases hlk:zbl o t.var with
    | none=>
     have HSO:=hidM (show agT o t v=some (o ++ [⟨t.var,v⟩]) by unfold agT;rw [if_neg (by omega),if_pos hk2,hlk])
     rw [hlk] at LB
     unfold bdV at LB
     clear hlk hk2
     go_wp2_with fail
     refine LB.out.mono ?_
     rintro e w3 ⟨rfl,hb3⟩
     have R3:=hidM (zag R2.out hb3)
     have D3:=hidM (D2.out.trans (hb3.mono D2.out.size))
     have kk2:=zaa hb3 k2
     have uu0:=zaa hb3 u0
     have uu1:=zaa hb3 u1
     have uu2:=zaa hb3 u2
     have hs3:=hb3.size
     clear hb3 LB
     go_upto_region 15 with fail
     refine zaj ?_
     intro w4 hW4 hq4
     obtain ⟨d0,d1,d2⟩:=cells3M hq4
     have R4:=hidM (zag R3.out hW4)
     have D4:=hidM (D3.out.trans (hW4.mono D3.out.size))
     have kd2:=zaa hW4 kk2
     have ud0:=zaa hW4 uu0
     have ud1:=zaa hW4 uu1
     have ud2:=zaa hW4 uu2
     have hs4:=hW4.size
     have HW:=hidM (fun o'=>(Below.refl _ _).alloc (Nat.le_refl _) o':∀ o',Below w4.heap.size w4 (w4.alloc o'))
     clear hW4 hq4 kk2 uu0 uu1 uu2 R3 D3
     go_wp2_with (first | (at_builtin;refine zad (by rfl) (.tmp 70) (.tmp 75) 89 (by rfl) w0.heap.size 220 _ 4 48 Tryz.underlying89 zk5 (by rfl) (by omega) _ o.length _ (by rfl) (zag R4.out (HW.out _)) (some ⟨_,0,none⟩) 1 1 (by rfl) (za7 ⟨t.var,v⟩) (by rfl) (fun e=>by cases e) (zav _ _ _ _ (by simp)) (by have:=znJ [⟨t.var,v⟩];simpa using this) (by unfold maxLen;omega) (by omega) (by simp;omega) ?_;intro a9 c9 w9 ho9 hg9 hl9) | fail)
     have R9:=hidM (show w9.ownsRow w0.heap.size 220 4 (.slice a9 (o ++ [(⟨t.var,v⟩:Bd)]).length c9) (o ++ [(⟨t.var,v⟩:Bd)]).length ((o ++ [(⟨t.var,v⟩:Bd)]).flatMap za7) by have:=ho9.out;simpa using this)
     have D9:=hidM ((D4.out.trans ((HW.out _).mono D4.out.size)).grown hg9.out (by simp;omega) (fun g hg=>(R4.out.lt g hg).1))
     clear ho9 hg9 hl9
     go_roundw
     case rel=>exact ⟨k+1,o ++ [⟨t.var,v⟩],a9,c9,by go_num,by omega,by simp,SOME.out _ HSO.out,by simp;omega,R9.out,D9.out⟩
     case measure=>(simp [intOf];omega)
    | some old=>
     rw [hlk] at LB
     unfold bdV at LB
     go_wp2_with fail
     refine LB.out.mono ?_
     rintro e w3 ⟨rfl,hb3⟩
     have R3:=hidM (zag R2.out hb3)
     have D3:=hidM (D2.out.trans (hb3.mono D2.out.size))
     have uu0:=zaa hb3 u0
     have uu1:=zaa hb3 u1
     have uu2:=zaa hb3 u2
     have hs3:=hb3.size
     clear hb3 LB
     go_upto_region 15 with fail
     refine zaj ?_
     intro w4 hW4 hq4
     obtain ⟨d0,d1,d2⟩:=cells3M hq4
     have R4:=hidM (zag R3.out hW4)
     have D4:=hidM (D3.out.trans (hW4.mono D3.out.size))
     have ud0:=zaa hW4 uu0
     have ud1:=zaa hW4 uu1
     have ud2:=zaa hW4 uu2
     clear hW4 hq4 uu0 uu1 uu2 R3 D3
     by_cases q0:old.kind=v.kind
     rotate_left
     ·have hne:¬ old=v:=fun e=>q0 (by rw [e])
      have HNO:=hidM (show agT o t v=none by unfold agT;rw [if_neg (by omega),if_pos hk2,hlk];simp only;rw [if_neg hne])
      clear hne hk2 hlk
      go_wp2_with fail
      refine bodyPost_ret (v:=.tuple #[.slice none 0 0,.bool false]) (by simp [results,Tryz.results99,go_sem]) rfl ?_
      exact zbA.no (NONE.out HNO.out) (H0.out.trans (D4.out.mono H0.out.size))
     by_cases q1:old.num=v.num
     rotate_left
     ·have hne:¬ old=v:=fun e=>q1 (by rw [e])
      have HNO:=hidM (show agT o t v=none by unfold agT;rw [if_neg (by omega),if_pos hk2,hlk];simp only;rw [if_neg hne])
      clear hne hk2 hlk
      go_wp2_with fail
      refine bodyPost_ret (v:=.tuple #[.slice none 0 0,.bool false]) (by simp [results,Tryz.results99,go_sem]) rfl ?_
      exact zbA.no (NONE.out HNO.out) (H0.out.trans (D4.out.mono H0.out.size))
     by_cases q2:old.sym.toList=v.sym.toList
     rotate_left
     ·have hne:¬ old=v:=fun e=>q2 (by rw [e])
      have HNO:=hidM (show agT o t v=none by unfold agT;rw [if_neg (by omega),if_pos hk2,hlk];simp only;rw [if_neg hne])
      clear hne hk2 hlk
      go_wp2_with fail
      refine bodyPost_ret (v:=.tuple #[.slice none 0 0,.bool false]) (by simp [results,Tryz.results99,go_sem]) rfl ?_
      exact zbA.no (NONE.out HNO.out) (H0.out.trans (D4.out.mono H0.out.size))
     have heq:old=v:=V.ext3 q0 q1 q2
     have HSO:=hidM (show agT o t v=some o by unfold agT;rw [if_neg (by omega),if_pos hk2,hlk];simp only;rw [if_pos heq])
     clear heq hk2 hlk
     go_wp2_with fail
     go_roundw
     case rel=>exact ⟨k+1,o,a,c,by go_num,by omega,rfl,SOME.out _ HSO.out,by omega,R4.out,D4.out⟩
     case measure=>(simp [intOf];omega)
   by_cases hk3:t.kind=3
   ·have b1:(t.kind==1)=false:=by simp;omega
    have b2:(t.kind==2)=false:=by simp;omega
    have b3:(t.kind==3)=true:=by simpa using hk3
    go_upto_region 21 with fail
    refine zaj ?_
    intro w3 hW3 hq3
    obtain ⟨x0,x1,x2⟩:=cells3M hq3
    have kk1:=zaa hW3 k1
    have kk2:=zaa hW3 k2
    have uu0:=zaa hW3 u0
    have uu1:=zaa hW3 u1
    have uu2:=zaa hW3 u2
    have R3:=hidM (zag R2.out hW3)
    have D3:=hidM (D2.out.trans (hW3.mono D2.out.size))
    have hs3:=hW3.size
    have BX:=hidM hq3
    clear hW3 hq3 k0 k1 k2 k3 k4 k5 u0 u1 u2 R2 D2
    by_cases hE:t.var=⟨#[]⟩
    ·have HWI:=hidM (show (if t.var=⟨#[]⟩ then t.val else (zbl o t.var).getD zVm)=t.val from if_pos hE)
     have hE1:t.var.toList.isEmpty=true:=by rw [hE,emM];rfl
     have hE2:(t.var.toList != [])=false:=by rw [hE,emM];rfl
     clear hE
     cases hm:meets t.op v t.val
     ·have HNO:=hidM (show agT o t v=none by unfold agT;rw [if_neg (by omega),if_neg (by omega),if_pos hk3,HWI.out,if_neg (by rw [hm];simp)])
      have L3:=hidM (zdf v t.val t.op w3)
      rw [hm] at L3
      clear hm hk3
      go_wp2_with fail
      refine L3.out.mono ?_
      rintro e w8 ⟨rfl,hb8⟩
      have D8:=hidM (D3.out.trans (hb8.mono D3.out.size))
      clear hb8 L3
      go_wp2_with fail
      refine bodyPost_ret (v:=.tuple #[.slice none 0 0,.bool false]) (by simp [results,Tryz.results99,go_sem]) rfl ?_
      exact zbA.no (NONE.out HNO.out) (H0.out.trans (D8.out.mono H0.out.size))
     ·have HSO:=hidM (show agT o t v=some o by unfold agT;rw [if_neg (by omega),if_neg (by omega),if_pos hk3,HWI.out,if_pos hm])
      have L3:=hidM (zdf v t.val t.op w3)
      rw [hm] at L3
      clear hm hk3
      go_wp2_with fail
      refine L3.out.mono ?_
      rintro e w8 ⟨rfl,hb8⟩
      have R8:=hidM (zag R3.out hb8)
      have D8:=hidM (D3.out.trans (hb8.mono D3.out.size))
      clear hb8 L3
      go_wp2_with fail
      go_roundw
      case rel=>exact ⟨k+1,o,a,c,by go_num,by omega,rfl,SOME.out _ HSO.out,by omega,R8.out,D8.out⟩
      case measure=>(simp [intOf];omega)
    ·have HWI:=hidM (show (if t.var=⟨#[]⟩ then t.val else (zbl o t.var).getD zVm)=(zbl o t.var).getD zVm from if_neg hE)
     have hE1:t.var.toList.isEmpty=false:=by cases h:t.var.toList.isEmpty;rfl;exact absurd (by have h2:(t.var.toList==(⟨#[]⟩:ByteArray).toList)=true:=(by rw [List.isEmpty_iff.1 h,emM];rfl);rw [zaL] at h2;simpa using h2) hE
     clear hE
     have LB:=hidM (zgd t.var a c o w3 (zct.owns R3.out) (by omega))
     obtain ⟨wv,hwv⟩:∃ wv,wv=(zbl o t.var).getD zVm:=⟨_,rfl⟩
     replace HWI:=hidM (HWI.out.trans hwv.symm)
     have LB2:=hidM (show ∃ fl:Bool,Calls Tryz.prog 129 #[.slice a o.length c,.string t.var] w3 fun e w'=>e=.returned (.tuple #[.agg #[.int .i64 wv.kind,.int .i64 wv.num,.string wv.sym],.bool fl])∧Below w3.heap.size w3 w' by cases hlk:zbl o t.var with | none=>(rw [hlk] at hwv LB;subst hwv;exact ⟨false,LB.out⟩) | some x=>(rw [hlk] at hwv LB;subst hwv;exact ⟨true,LB.out⟩))
     obtain ⟨fl,hLB⟩:=LB2.out
     have LB3:=hidM hLB
     clear LB LB2 hLB hwv
     go_wp2_with fail
     refine LB3.out.mono ?_
     rintro e w4 ⟨rfl,hb4⟩
     have BX4:=hidM ((hb4.block _ (zab BX.out)).trans BX.out)
     obtain ⟨y0,y1,y2⟩:=cells3M BX4.out
     have zf:=hidM (fun j=>(show w4.frozen? ⟨w2.heap.size,j,none⟩=false by simp [World.frozen?,BX4.out]))
     have zf0:=zf.out 0
     have zf1:=zf.out 1
     have zf2:=zf.out 2
     have kl1:=zaa hb4 kk1
     have ul0:=zaa hb4 uu0
     have ul1:=zaa hb4 uu1
     have ul2:=zaa hb4 uu2
     have R4:=hidM (zag R3.out hb4)
     have D4:=hidM (D3.out.trans (hb4.mono D3.out.size))
     have hs4:=hb4.size
     clear hb4 LB3 kk1 kk2 uu0 uu1 uu2 x0 x1 x2 R3 D3
     go_upto_region 23 with fail
     refine zoo BX4.out ?_
     intro w5 hq5 ht5
     obtain ⟨x0,x1,x2⟩:=cells3M hq5
     have R5:=hidM (zae R4.out fun g hg=>ht5.block g (fun e=>by obtain ⟨d,hd⟩:=zai R4.out hg;subst e;exact zaA BX4.out hd (by decide)))
     have D5:=hidM (D4.out.trans (ht5.below (by omega)))
     have km1:w5.cell? ⟨wr.heap.size,1,none⟩=some (.int .i64 t.op):=(World.cell?_of_block (w:=w4) (ht5.block (wr.heap.size) (by omega))).trans kl1
     have um0:w5.cell? ⟨wr.heap.size+1,0,none⟩=some (.int .i64 v.kind):=(World.cell?_of_block (w:=w4) (ht5.block (wr.heap.size+1) (by omega))).trans ul0
     have um1:w5.cell? ⟨wr.heap.size+1,1,none⟩=some (.int .i64 v.num):=(World.cell?_of_block (w:=w4) (ht5.block (wr.heap.size+1) (by omega))).trans ul1
     have um2:w5.cell? ⟨wr.heap.size+1,2,none⟩=some (.string v.sym):=(World.cell?_of_block (w:=w4) (ht5.block (wr.heap.size+1) (by omega))).trans ul2
     clear hq5 ht5 kl1 ul0 ul1 ul2 y0 y1 y2 zf zf0 zf1 zf2 R4 D4 BX4 BX
     cases hm:meets t.op v wv
     ·have HNO:=hidM (show agT o t v=none by unfold agT;rw [if_neg (by omega),if_neg (by omega),if_pos hk3,HWI.out,if_neg (by rw [hm];simp)])
      have L3:=hidM (zdf v wv t.op w5)
      rw [hm] at L3
      clear hm hk3
      go_wp2_with fail
      refine L3.out.mono ?_
      rintro e w8 ⟨rfl,hb8⟩
      have D8:=hidM (D5.out.trans (hb8.mono D5.out.size))
      clear hb8 L3
      go_wp2_with fail
      refine bodyPost_ret (v:=.tuple #[.slice none 0 0,.bool false]) (by simp [results,Tryz.results99,go_sem]) rfl ?_
      exact zbA.no (NONE.out HNO.out) (H0.out.trans (D8.out.mono H0.out.size))
     ·have HSO:=hidM (show agT o t v=some o by unfold agT;rw [if_neg (by omega),if_neg (by omega),if_pos hk3,HWI.out,if_pos hm])
      have L3:=hidM (zdf v wv t.op w5)
      rw [hm] at L3
      clear hm hk3
      go_wp2_with fail
      refine L3.out.mono ?_
      rintro e w8 ⟨rfl,hb8⟩
      have R8:=hidM (zag R5.out hb8)
      have D8:=hidM (D5.out.trans (hb8.mono D5.out.size))
      clear hb8 L3
      go_wp2_with fail
      go_roundw
      case rel=>exact ⟨k+1,o,a,c,by go_num,by omega,rfl,SOME.out _ HSO.out,by omega,R8.out,D8.out⟩
      case measure=>(simp [intOf];omega)
   have b1:(t.kind==1)=false:=by simpa using hk1
   have b2:(t.kind==2)=false:=by simpa using hk2
   have b3:(t.kind==3)=false:=by simpa using hk3
   have HSO:=hidM (show agT o t v=some o by unfold agT;rw [if_neg hk1,if_neg hk2,if_neg hk3])
   go_wp2_with fail
   go_roundw
   case rel=>exact ⟨k+1,o,a,c,by go_num,by omega,rfl,SOME.out _ HSO.out,by omega,R2.out,D2.out⟩
   case measure=>(simp [intOf];omega)
  ·have hke:k=p.terms.length:=by omega
   subst hke
   have hy:¬ (p.terms.length:Int)<(p.terms.length:Int):=by omega
   have HR:=hidM (show agree p f bs=some o by rw [HG.out,List.drop_eq_nil_of_le (Nat.le_refl _)];rfl)
   go_wp2_with fail
   refine bodyPost_ret (v:=.tuple #[.slice a o.length c,.bool true]) (by simp [results,Tryz.results99,go_sem]) rfl ?_
   exact zbA.yes HR.out (zan ROW.out H0.out.size) HBW.out
end Go.Proofs.YtmmdlgjmplddiaaGreat
