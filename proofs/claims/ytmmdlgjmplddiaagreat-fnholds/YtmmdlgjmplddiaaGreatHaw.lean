/-
  OUR OWN TEXT. Mm1, Pq2, Pq3, Pq4, Mm2, one behind the other.
-/
import Derived.Test.YtmmdlgjmplddiaaGreatHau
import Derived.Test.YtmmdlgjmplddiaaGreatAp1bm
import Derived.Test.YtmmdlgjmplddiaaGreatHaa
import Derived.Deep.DeepCutAuto
namespace Go.Proofs.YtmmdlgjmplddiaaGreat
open Go.RowKit
attribute [local go_sem ↓] Go.wp_at_zero Go.wp_at_succ
theorem hidM {p:Prop} (h:p):Hid p:=h
def zba (b:Bd):List Value:=[.string b.var,.int .i64 b.val.kind,.int .i64 b.val.num,.string b.val.sym]
theorem zfU:∀ S:List Bd,(S.flatMap zba).length=S.length * 4
 | []=>rfl
 | b :: r=>by
  rw [List.flatMap_cons,List.length_append,zfU r]
  simp [zba]
  omega
theorem zmG (bs:List Bd):∀ x∈bs.flatMap zba,x.oneCell'=true:=by
 intro x hx
 obtain ⟨b,_,hb⟩:=List.mem_flatMap.1 hx
 simp [zba] at hb
 rcases hb with rfl | rfl | rfl | rfl <;> rfl
theorem zok (bs:List Bd) (j:Nat) (x:Value) (h:(bs.flatMap zba)[j]?=some x):∃ b,bs[j / 4]?=some b∧(zba b)[j % 4]?=some x:=by
 induction bs generalizing j with
 | nil=>simp at h
 | cons b r ih=>
  have hlen:(zba b).length=4:=rfl
  rw [List.flatMap_cons] at h
  by_cases hj:j<4
  ·rw [List.getElem?_append_left (by omega)] at h
   refine ⟨b,?_,?_⟩
   ·rw [show j / 4=0 by omega];rfl
   ·rwa [show j % 4=j by omega]
  ·rw [List.getElem?_append_right (by omega)] at h
   obtain ⟨u,h1,h2⟩:=ih (j - (zba b).length) h
   rw [hlen] at h1 h2
   refine ⟨u,?_,?_⟩
   ·rw [show j / 4=(j - 4) / 4+1 by omega];exact h1
   ·rwa [show j % 4=(j - 4) % 4 by omega]
theorem zcS.flat {q:Option Nat}{w:World}{ad:Addr}{bs:List Bd} (h:zcS q w (some ad) bs) (j:Nat) (x:Value) (hx:(bs.flatMap zba)[j]?=some x):w.cell? (ad.add j)=some x:=by
 obtain ⟨b,hb,hc⟩:=zok bs j x hx
 obtain ⟨g,o,r,he,_,_,h4,hR⟩:=h _ b hb
 cases he
 have hR':r=zba b:=hR
 rw [Addr.add_mid]
 have:=h4 (j % 4) x (by rw [hR'];exact hc)
 rw [show o+j=o+j / 4 * 4+j % 4 by omega]
 exact this
theorem zcS.nil' {q:Option Nat}{w:World}{bs:List Bd} (h:zcS q w none bs):bs.length=0:=by
 cases bs with
 | nil=>rfl
 | cons v r=>
  obtain ⟨b,o,_,he,_⟩:=h 0 v rfl
  cases he
theorem zcS.owns {w:World}{base:Nat}{a:Option Addr}{c:Nat}{S:List Bd} (h:w.ownsRow base 220 4 (.slice a S.length c) S.length (S.flatMap zba)):zcS none w a S:=by
 intro i s hi
 have key:=fun j u (hj:(zba s)[j]?=some u)=>zam h (zbe (cells:=zba) (m:=4) (fun _=>rfl) S i s j u hi hj)
 obtain ⟨g,rfl,_,_,_⟩:=key 0 _ rfl
 refine ⟨g,0,zba s,rfl,Qb.bare _ _ _,rfl,fun j v hj=>?_,rfl⟩
 obtain ⟨g',e,_,hc,_⟩:=key j v hj
 cases e
 rw [Nat.zero_add]
 exact hc
theorem zkA:(Tryz.prog.info? 220).map (fun i=>(i.zero,i.size,i.bytes))=some (some (.agg #[.string ⟨#[]⟩,.int .i64 0,.int .i64 0,.string ⟨#[]⟩]),4,48):=by kernel_rfl
theorem ziE {P:World→Prop}{w:World}{o1 o2:Obj} (h:∀ wt,Below w.heap.size w wt→wt.heap[w.heap.size]?=some o1→wt.heap[w.heap.size+1]?=some o2→P wt):P ((w.alloc o1).alloc o2):=
 h _ (((Below.refl _ _).alloc (Nat.le_refl _) _).alloc (by simp) _) ((Below.heap_alloc _ _ _ (by simp)).trans (heap_alloc_new _ _)) (by have:=heap_alloc_new (w.alloc o1) o2;simpa using this)
theorem cells3M {w:World}{b:Nat}{ty:TypeId}{x0 x1 x2:Value} (h:w.heap[b]?=some (.cells #[x0,x1,x2] ty (0,0))):w.cell? ⟨b,0,none⟩=some x0∧w.cell? ⟨b,1,none⟩=some x1∧w.cell? ⟨b,2,none⟩=some x2:=by
 refine ⟨?_,?_,?_⟩ <;> simp [World.cell?,h]
theorem cells6M {w:World}{b:Nat}{ty:TypeId}{x0 x1 x2 x3 x4 x5:Value} (h:w.heap[b]?=some (.cells #[x0,x1,x2,x3,x4,x5] ty (0,0))):w.cell? ⟨b,0,none⟩=some x0∧w.cell? ⟨b,1,none⟩=some x1∧w.cell? ⟨b,2,none⟩=some x2∧w.cell? ⟨b,3,none⟩=some x3∧w.cell? ⟨b,4,none⟩=some x4∧w.cell? ⟨b,5,none⟩=some x5:=by
 refine ⟨?_,?_,?_,?_,?_,?_⟩ <;> simp [World.cell?,h]
theorem emM:(⟨#[]⟩:ByteArray).toList=[]:=by kernel_rfl
theorem V.ext3 {v u:V} (h0:v.kind=u.kind) (h1:v.num=u.num) (h2:v.sym.toList=u.sym.toList):v=u:=by
 have h3:(v.sym.toList==u.sym.toList)=true:=by rw [h2];simp
 rw [zaM] at h3
 exact V.same h0 h1 (by simpa using h3)
theorem ziM {w:World}{b o:Nat}{x:Value} (h:w.cell? ⟨b,o,none⟩=some x):b<w.heap.size:=by
 by_cases hp:b<w.heap.size
 ·exact hp
 ·have:w.heap[b]?=none:=Array.getElem?_eq_none (by omega)
  simp [World.cell?,this] at h
theorem zm7 {P:World→Prop}{w:World}{b:Nat}{t:TypeId}{x0 x1 x2 y0 y1 y2:Value} (h0:w.heap[b]?=some (.cells #[x0,x1,x2] t (0,0))) (h:∀ wt,wt.heap[b]?=some (.cells #[y0,y1,y2] t (0,0))→Turned w wt b→P wt):P (((w.setCell ⟨b,0,none⟩ y0).setCell ⟨b,1,none⟩ y1).setCell ⟨b,2,none⟩ y2):=by
 have h1:=zad (i:=0) h0 y0
 have h2:=zad (i:=1) h1 y1
 have h3:=zad (i:=2) h2 y2
 exact h _ (by simpa using h3) (Turned.setCells [y0,y1,y2] 0 w b)
def zbB (p:Pt) (f:F) (bs:List Bd) (w:World) (e:Ending) (w':World):Prop:=
 (match agree p f bs with
  | none=>e=.returned (.tuple #[.slice none 0 0,.bool false])
  | some o=>∃ a c,e=.returned (.tuple #[.slice a o.length c,.bool true])∧w'.ownsRow w.heap.size 220 4 (.slice a o.length c) o.length (o.flatMap zba))∧Below w.heap.size w w'
theorem zbB.no {p:Pt}{f:F}{bs:List Bd}{w w':World} (h:agree p f bs=none) (hb:Below w.heap.size w w'):zbB p f bs w (.returned (.tuple #[.slice none 0 0,.bool false])) w':=by
 unfold zbB
 rw [h]
 exact ⟨rfl,hb⟩
theorem zbB.yes {p:Pt}{f:F}{bs o:List Bd}{w w':World}{a:Option Addr}{c:Nat} (h:agree p f bs=some o) (ho:w'.ownsRow w.heap.size 220 4 (.slice a o.length c) o.length (o.flatMap zba)) (hb:Below w.heap.size w w'):zbB p f bs w (.returned (.tuple #[.slice a o.length c,.bool true])) w':=by
 unfold zbB
 rw [h]
 exact ⟨⟨a,c,rfl,ho⟩,hb⟩
set_option maxRecDepth 100000 in
set_option maxHeartbeats 12800000 in
theorem ziD (p:Pt) (f:F) (bs:List Bd) (a_t:Option Addr) (c_t:Nat) (fa:Option Addr) (fc:Nat) (ba:Option Addr) (bc:Nat) {q q':Option Nat} (w:World) (h_t:zch q w a_t p.terms) (h_f:zaY w fa f.slots) (h_b:zcS q' w ba bs) (ht6:p.terms.length≤6) (hbl:bs.length≤1000) :
  Calls Tryz.prog 99 #[.agg #[.bool p.neg,.string p.cls,.slice a_t p.terms.length c_t],.agg #[.int .i64 f.tag,.string f.cls,.slice fa f.slots.length fc],.slice ba bs.length bc] w (zbB p f bs w):=by
 have HT:=hidM h_t
 have HF:=hidM h_f
 have HB:=hidM h_b
 clear h_t h_f h_b
 have B2:=hidM (fun o o1=>((Below.refl _ _).alloc (Nat.le_refl _) _).alloc (by simp) _:∀ o o1,Below w.heap.size w ((w.alloc o).alloc o1))
 cases e1:(p.cls.toList==f.cls.toList)
 ·have HN:=hidM (show agree p f bs=none from if_neg (fun h=>by rw [h.1] at e1;simp at e1))
  have e1':(p.cls.toList != f.cls.toList)=true:=by rw [bne,e1];rfl
  go_enter Tryz.func99,Tryz.ntmps99
  go_wp2_with fail
  refine bodyPost_ret (v:=.tuple #[.slice none 0 0,.bool false]) (by simp [results,Tryz.results99,go_sem]) rfl ?_
  exact zbB.no HN.out (B2.out _ _)
 have e1':(p.cls.toList != f.cls.toList)=false:=by rw [bne,e1];rfl
 cases e2:((p.terms.length:Int)==(f.slots.length:Int))
 ·have HN:=hidM (show agree p f bs=none from if_neg (fun h=>by rw [h.2] at e2;simp at e2))
  have e2':((p.terms.length:Int) != (f.slots.length:Int))=true:=by rw [bne,e2];rfl
  go_enter Tryz.func99,Tryz.ntmps99
  go_wp2_with fail
  refine bodyPost_ret (v:=.tuple #[.slice none 0 0,.bool false]) (by simp [results,Tryz.results99,go_sem]) rfl ?_
  exact zbB.no HN.out (B2.out _ _)
 have e2':((p.terms.length:Int) != (f.slots.length:Int))=false:=by rw [bne,e2];rfl
 have hlen:p.terms.length=f.slots.length:=by simp at e2;omega
 have hcls:p.cls=f.cls:=by rw [zaM] at e1;simpa using e1
 have HAG:=hidM (show agree p f bs=agGo bs p.terms f.slots from if_pos ⟨hcls,hlen⟩)
 have HLEN:=hidM hlen
 clear hlen hcls
 go_enter Tryz.func99,Tryz.ntmps99
 go_upto_region 1 with fail
 refine ziE ?_
 intro w0 hW0 hq1 hq2
 obtain ⟨pb0,pb1,pb2⟩:=cells3M hq1
 obtain ⟨fb0,fb1,fb2⟩:=cells3M hq2
 have H0:=hidM hW0
 have hs0:=hW0.size
 have hl0:w.heap.size+1<w0.heap.size:=zab hq2
 have BD0:=hidM (HB.out.below hW0)
 clear hW0 hq1 hq2
 go_upto_region 5 with (first | (at_builtin;refine zae (by rfl) (.tmp 29) (.tmp 30) 89 (by rfl) w0.heap.size 220 _ 4 48 Tryz.underlying89 zkA (by rfl) (by omega) _ 0 [] (by rfl) (World.ownsRow_nil _ _ _ _) ba bs.length bc (by rfl) (bs.flatMap zba) (by rw [zfU]) (fun e=>zcS.nil' (e ▸ BD0.out)) (fun ad e=>zcS.flat (e ▸ BD0.out)) (zmG _) (by unfold maxLen;omega) (by omega) (Nat.le_refl _) ?_;intro a1 c1 w1 ho1 hg1 hl1) | fail)
 have hB01:Below w0.heap.size w0 w1:=⟨hg1.out.os,hg1.out.tape,hg1.out.output,hg1.out.size,fun k hk=>hg1.out.block k hk (fun e=>by cases e)⟩
 have OW1:=hidM (show w1.ownsRow w0.heap.size 220 4 (.slice a1 bs.length c1) bs.length (bs.flatMap zba) by have:=ho1.out;simpa using this)
 have pb2':=zaa hB01 pb2
 have HB01:=hidM hB01
 clear ho1 hg1 hl1 e1 e2 e1' e2' hB01
 go_wp2_with fail
 clear pb2'
 go_loopw [35,8] (fun iv ov wr=>∃ (k:Nat) (o:List Bd) (a:Option Addr) (c:Nat),iv=.int .i64 (k:Int)∧k≤p.terms.length∧ov=.slice a o.length c∧agree p f bs=agGo o (p.terms.drop k) (f.slots.drop k)∧o.length≤bs.length+k∧wr.ownsRow w0.heap.size 220 4 (.slice a o.length c) o.length (o.flatMap zba)∧Below w0.heap.size w0 wr) (fun iv _ _=>p.terms.length - (intOf iv).toNat)
 case atStart=>exact ⟨0,bs,a1,c1,rfl,Nat.zero_le _,rfl,HAG.out,Nat.le_refl _,OW1.out,HB01.out⟩
 case round=>
  obtain ⟨k,o,a,c,rfl,hkl,rfl,hG,hol,hrow,hb⟩:=hrel
  have HG:=hidM hG
  have ROW:=hidM hrow
  have HBB:=hidM hb
  have HBW:=hidM (H0.out.trans (hb.mono H0.out.size))
  have hsr:=hb.size
  clear hG hrow hb HB01 OW1
  by_cases hk:k<p.terms.length
  ·obtain ⟨t,ht⟩:∃ t,p.terms[k]?=some t:=⟨p.terms[k],by simp [hk]⟩
   obtain ⟨v,hv⟩:∃ v,f.slots[k]?=some v:=⟨f.slots[k]'(by have:=HLEN.out;omega),by simp⟩
   have HD:=hidM (zan ht)
   have HD':=hidM (zan hv)
   obtain ⟨tb,tk,rfl,_,t0,t1,t2,t3,t4,t5⟩:=(HT.out.below HBW.out).get ht
   obtain ⟨vb,vo,rfl,v0,v1,v2⟩:=(HF.out.below HBW.out) k v hv
   have pbr:=zaa HBB.out pb2
   have fbr:=zaa HBB.out fb2
   have hl1:w.heap.size+1<wr.heap.size:=by omega
   have hl3:=ziM v0
   have z0:(0:Int)≤(k:Int):=by omega
   have z1:(k:Int)<(p.terms.length:Int):=by omega
   have z2:(k:Int)<(f.slots.length:Int):=by have:=HLEN.out;omega
   have NONE:=hidM (fun (h:agT o t v=none)=>(show agree p f bs=none by rw [HG.out,HD.out,HD'.out];exact zk3 h))
   have SOME:=hidM (fun o' (h:agT o t v=some o')=>(show agree p f bs=agGo o' (p.terms.drop (k+1)) (f.slots.drop (k+1)) by rw [HG.out,HD.out,HD'.out];exact zkG h))
   clear ht hv HD HD' HG
   go_upto_region 9 with fail
   refine ziE ?_
   intro w2 hW2 hq1 hq2
   obtain ⟨k0,k1,k2,k3,k4,k5⟩:=cells6M hq1
   obtain ⟨u0,u1,u2⟩:=cells3M hq2
   have R2:=hidM (zai ROW.out hW2)
   have D2:=hidM (HBB.out.trans (hW2.mono HBB.out.size))
   have hs2:=hW2.size
   have hl2:wr.heap.size+1<w2.heap.size:=zab hq2
   clear hW2 hq1 hq2 t0 t1 t2 t3 t4 t5 v0 v1 v2 pbr fbr ROW HBB HBW
   by_cases hk1:t.kind=1
   ·have b1:(t.kind==1)=true:=by simpa using hk1
    by_cases q0:v.kind=t.val.kind
    rotate_left
    ·have hne:¬ v=t.val:=fun e=>q0 (by rw [e])
     have HNO:=hidM (show agT o t v=none by unfold agT;rw [if_pos hk1,if_neg hne])
     clear hne hk1
     go_wp2_with fail
     refine bodyPost_ret (v:=.tuple #[.slice none 0 0,.bool false]) (by simp [results,Tryz.results99,go_sem]) rfl ?_
     exact zbB.no (NONE.out HNO.out) (H0.out.trans (D2.out.mono H0.out.size))
    by_cases q1:v.num=t.val.num
    rotate_left
    ·have hne:¬ v=t.val:=fun e=>q1 (by rw [e])
     have HNO:=hidM (show agT o t v=none by unfold agT;rw [if_pos hk1,if_neg hne])
     clear hne hk1
     go_wp2_with fail
     refine bodyPost_ret (v:=.tuple #[.slice none 0 0,.bool false]) (by simp [results,Tryz.results99,go_sem]) rfl ?_
     exact zbB.no (NONE.out HNO.out) (H0.out.trans (D2.out.mono H0.out.size))
    by_cases q2:v.sym.toList=t.val.sym.toList
    rotate_left
    ·have hne:¬ v=t.val:=fun e=>q2 (by rw [e])
     have HNO:=hidM (show agT o t v=none by unfold agT;rw [if_pos hk1,if_neg hne])
     clear hne hk1
     go_wp2_with fail
     refine bodyPost_ret (v:=.tuple #[.slice none 0 0,.bool false]) (by simp [results,Tryz.results99,go_sem]) rfl ?_
     exact zbB.no (NONE.out HNO.out) (H0.out.trans (D2.out.mono H0.out.size))
    have heq:v=t.val:=V.ext3 q0 q1 q2
    have HSO:=hidM (show agT o t v=some o by unfold agT;rw [if_pos hk1,if_pos heq])
    clear heq hk1
    go_wp2_with fail
    go_roundw
    case rel=>exact ⟨k+1,o,a,c,by go_num,by omega,rfl,SOME.out _ HSO.out,by omega,R2.out,D2.out⟩
    case measure=>(simp [intOf];omega)
   by_cases hk2:t.kind=2
   ·have b1:(t.kind==1)=false:=by simp;omega
    have b2:(t.kind==2)=true:=by simpa using hk2
    have LB:=hidM (zgf t.var a c o w2 (zcS.owns R2.out) (by omega))
    cases hlk:zbl o t.var with
    | none=>
     have HSO:=hidM (show agT o t v=some (o ++ [⟨t.var,v⟩]) by unfold agT;rw [if_neg (by omega),if_pos hk2,hlk])
     rw [hlk] at LB
     unfold bdV at LB
     clear hlk hk2
     go_wp2_with fail
     refine LB.out.mono ?_
     rintro e w3 ⟨rfl,hb3⟩
     have R3:=hidM (zai R2.out hb3)
     have D3:=hidM (D2.out.trans (hb3.mono D2.out.size))
     have kk2:=zaa hb3 k2
     have uu0:=zaa hb3 u0
     have uu1:=zaa hb3 u1
     have uu2:=zaa hb3 u2
     have hs3:=hb3.size
     clear hb3 LB
     go_upto_region 15 with fail
     refine zaj ?_
     intro w4 hW4 hq4
     obtain ⟨d0,d1,d2⟩:=cells3M hq4
     have R4:=hidM (zai R3.out hW4)
     have D4:=hidM (D3.out.trans (hW4.mono D3.out.size))
     have kd2:=zaa hW4 kk2
     have ud0:=zaa hW4 uu0
     have ud1:=zaa hW4 uu1
     have ud2:=zaa hW4 uu2
     have hs4:=hW4.size
     have HW:=hidM (fun o'=>(Below.refl _ _).alloc (Nat.le_refl _) o':∀ o',Below w4.heap.size w4 (w4.alloc o'))
     clear hW4 hq4 kk2 uu0 uu1 uu2 R3 D3
     go_wp2_with (first | (at_builtin;refine zae (by rfl) (.tmp 70) (.tmp 75) 89 (by rfl) w0.heap.size 220 _ 4 48 Tryz.underlying89 zkA (by rfl) (by omega) _ o.length _ (by rfl) (zai R4.out (HW.out _)) (some ⟨_,0,none⟩) 1 1 (by rfl) (zba ⟨t.var,v⟩) (by rfl) (fun e=>by cases e) (zaw _ _ _ _ (by simp)) (by have:=zmG [⟨t.var,v⟩];simpa using this) (by unfold maxLen;omega) (by omega) (by simp;omega) ?_;intro a9 c9 w9 ho9 hg9 hl9) | fail)
     have R9:=hidM (show w9.ownsRow w0.heap.size 220 4 (.slice a9 (o ++ [(⟨t.var,v⟩:Bd)]).length c9) (o ++ [(⟨t.var,v⟩:Bd)]).length ((o ++ [(⟨t.var,v⟩:Bd)]).flatMap zba) by have:=ho9.out;simpa using this)
     have D9:=hidM ((D4.out.trans ((HW.out _).mono D4.out.size)).grown hg9.out (by simp;omega) (fun g hg=>(R4.out.lt g hg).1))
     clear ho9 hg9 hl9
     go_roundw
     case rel=>exact ⟨k+1,o ++ [⟨t.var,v⟩],a9,c9,by go_num,by omega,by simp,SOME.out _ HSO.out,by simp;omega,R9.out,D9.out⟩
     case measure=>(simp [intOf];omega)
    | some old=>
     rw [hlk] at LB
     unfold bdV at LB
     go_wp2_with fail
     refine LB.out.mono ?_
     rintro e w3 ⟨rfl,hb3⟩
     have R3:=hidM (zai R2.out hb3)
     have D3:=hidM (D2.out.trans (hb3.mono D2.out.size))
     have uu0:=zaa hb3 u0
     have uu1:=zaa hb3 u1
     have uu2:=zaa hb3 u2
     have hs3:=hb3.size
     clear hb3 LB
     go_upto_region 15 with fail
     refine zaj ?_
     intro w4 hW4 hq4
     obtain ⟨d0,d1,d2⟩:=cells3M hq4
     have R4:=hidM (zai R3.out hW4)
     have D4:=hidM (D3.out.trans (hW4.mono D3.out.size))
     have ud0:=zaa hW4 uu0
     have ud1:=zaa hW4 uu1
     have ud2:=zaa hW4 uu2
     clear hW4 hq4 uu0 uu1 uu2 R3 D3
     by_cases q0:old.kind=v.kind
     rotate_left
     ·have hne:¬ old=v:=fun e=>q0 (by rw [e])
      have HNO:=hidM (show agT o t v=none by unfold agT;rw [if_neg (by omega),if_pos hk2,hlk];simp only;rw [if_neg hne])
      clear hne hk2 hlk
      go_wp2_with fail
      refine bodyPost_ret (v:=.tuple #[.slice none 0 0,.bool false]) (by simp [results,Tryz.results99,go_sem]) rfl ?_
      exact zbB.no (NONE.out HNO.out) (H0.out.trans (D4.out.mono H0.out.size))
     by_cases q1:old.num=v.num
     rotate_left
     ·have hne:¬ old=v:=fun e=>q1 (by rw [e])
      have HNO:=hidM (show agT o t v=none by unfold agT;rw [if_neg (by omega),if_pos hk2,hlk];simp only;rw [if_neg hne])
      clear hne hk2 hlk
      go_wp2_with fail
      refine bodyPost_ret (v:=.tuple #[.slice none 0 0,.bool false]) (by simp [results,Tryz.results99,go_sem]) rfl ?_
      exact zbB.no (NONE.out HNO.out) (H0.out.trans (D4.out.mono H0.out.size))
     by_cases q2:old.sym.toList=v.sym.toList
     rotate_left
     ·have hne:¬ old=v:=fun e=>q2 (by rw [e])
      have HNO:=hidM (show agT o t v=none by unfold agT;rw [if_neg (by omega),if_pos hk2,hlk];simp only;rw [if_neg hne])
      clear hne hk2 hlk
      go_wp2_with fail
      refine bodyPost_ret (v:=.tuple #[.slice none 0 0,.bool false]) (by simp [results,Tryz.results99,go_sem]) rfl ?_
      exact zbB.no (NONE.out HNO.out) (H0.out.trans (D4.out.mono H0.out.size))
     have heq:old=v:=V.ext3 q0 q1 q2
     have HSO:=hidM (show agT o t v=some o by unfold agT;rw [if_neg (by omega),if_pos hk2,hlk];simp only;rw [if_pos heq])
     clear heq hk2 hlk
     go_wp2_with fail
     go_roundw
     case rel=>exact ⟨k+1,o,a,c,by go_num,by omega,rfl,SOME.out _ HSO.out,by omega,R4.out,D4.out⟩
     case measure=>(simp [intOf];omega)
   by_cases hk3:t.kind=3
   ·have b1:(t.kind==1)=false:=by simp;omega
    have b2:(t.kind==2)=false:=by simp;omega
    have b3:(t.kind==3)=true:=by simpa using hk3
    go_upto_region 21 with fail
    refine zaj ?_
    intro w3 hW3 hq3
    obtain ⟨x0,x1,x2⟩:=cells3M hq3
    have kk1:=zaa hW3 k1
    have kk2:=zaa hW3 k2
    have uu0:=zaa hW3 u0
    have uu1:=zaa hW3 u1
    have uu2:=zaa hW3 u2
    have R3:=hidM (zai R2.out hW3)
    have D3:=hidM (D2.out.trans (hW3.mono D2.out.size))
    have hs3:=hW3.size
    have BX:=hidM hq3
    clear hW3 hq3 k0 k1 k2 k3 k4 k5 u0 u1 u2 R2 D2
    by_cases hE:t.var=⟨#[]⟩
    ·have HWI:=hidM (show (if t.var=⟨#[]⟩ then t.val else (zbl o t.var).getD zVm)=t.val from if_pos hE)
     have hE1:t.var.toList.isEmpty=true:=by rw [hE,emM];rfl
     have hE2:(t.var.toList != [])=false:=by rw [hE,emM];rfl
     clear hE
     cases hm:meets t.op v t.val
     ·have HNO:=hidM (show agT o t v=none by unfold agT;rw [if_neg (by omega),if_neg (by omega),if_pos hk3,HWI.out,if_neg (by rw [hm];simp)])
      have L3:=hidM (zc2 v t.val t.op w3)
      rw [hm] at L3
      clear hm hk3
      go_wp2_with fail
      refine L3.out.mono ?_
      rintro e w8 ⟨rfl,hb8⟩
      have D8:=hidM (D3.out.trans (hb8.mono D3.out.size))
      clear hb8 L3
      go_wp2_with fail
      refine bodyPost_ret (v:=.tuple #[.slice none 0 0,.bool false]) (by simp [results,Tryz.results99,go_sem]) rfl ?_
      exact zbB.no (NONE.out HNO.out) (H0.out.trans (D8.out.mono H0.out.size))
     ·have HSO:=hidM (show agT o t v=some o by unfold agT;rw [if_neg (by omega),if_neg (by omega),if_pos hk3,HWI.out,if_pos hm])
      have L3:=hidM (zc2 v t.val t.op w3)
      rw [hm] at L3
      clear hm hk3
      go_wp2_with fail
      refine L3.out.mono ?_
      rintro e w8 ⟨rfl,hb8⟩
      have R8:=hidM (zai R3.out hb8)
      have D8:=hidM (D3.out.trans (hb8.mono D3.out.size))
      clear hb8 L3
      go_wp2_with fail
      go_roundw
      case rel=>exact ⟨k+1,o,a,c,by go_num,by omega,rfl,SOME.out _ HSO.out,by omega,R8.out,D8.out⟩
      case measure=>(simp [intOf];omega)
    ·have HWI:=hidM (show (if t.var=⟨#[]⟩ then t.val else (zbl o t.var).getD zVm)=(zbl o t.var).getD zVm from if_neg hE)
     have hE1:t.var.toList.isEmpty=false:=by cases h:t.var.toList.isEmpty;rfl;exact absurd (by have h2:(t.var.toList==(⟨#[]⟩:ByteArray).toList)=true:=(by rw [List.isEmpty_iff.1 h,emM];rfl);rw [zaM] at h2;simpa using h2) hE
     clear hE
     have LB:=hidM (zgf t.var a c o w3 (zcS.owns R3.out) (by omega))
     obtain ⟨wv,hwv⟩:∃ wv,wv=(zbl o t.var).getD zVm:=⟨_,rfl⟩
     replace HWI:=hidM (HWI.out.trans hwv.symm)
     have LB2:=hidM (show ∃ fl:Bool,Calls Tryz.prog 129 #[.slice a o.length c,.string t.var] w3 fun e w'=>e=.returned (.tuple #[.agg #[.int .i64 wv.kind,.int .i64 wv.num,.string wv.sym],.bool fl])∧Below w3.heap.size w3 w' by cases hlk:zbl o t.var with | none=>(rw [hlk] at hwv LB;subst hwv;exact ⟨false,LB.out⟩) | some x=>(rw [hlk] at hwv LB;subst hwv;exact ⟨true,LB.out⟩))
     obtain ⟨fl,hLB⟩:=LB2.out
     have LB3:=hidM hLB
     clear LB LB2 hLB hwv
     go_wp2_with fail
     refine LB3.out.mono ?_
     rintro e w4 ⟨rfl,hb4⟩
     have BX4:=hidM ((hb4.block _ (zab BX.out)).trans BX.out)
     obtain ⟨y0,y1,y2⟩:=cells3M BX4.out
     have zf:=hidM (fun j=>(show w4.frozen? ⟨w2.heap.size,j,none⟩=false by simp [World.frozen?,BX4.out]))
     have zf0:=zf.out 0
     have zf1:=zf.out 1
     have zf2:=zf.out 2
     have kl1:=zaa hb4 kk1
     have ul0:=zaa hb4 uu0
     have ul1:=zaa hb4 uu1
     have ul2:=zaa hb4 uu2
     have R4:=hidM (zai R3.out hb4)
     have D4:=hidM (D3.out.trans (hb4.mono D3.out.size))
     have hs4:=hb4.size
     clear hb4 LB3 kk1 kk2 uu0 uu1 uu2 x0 x1 x2 R3 D3
     go_upto_region 23 with fail
     refine zm7 BX4.out ?_
     intro w5 hq5 ht5
     obtain ⟨x0,x1,x2⟩:=cells3M hq5
     have R5:=hidM (zaf R4.out fun g hg=>ht5.block g (fun e=>by obtain ⟨d,hd⟩:=zah R4.out hg;subst e;exact zaF BX4.out hd (by decide)))
     have D5:=hidM (D4.out.trans (ht5.below (by omega)))
     have km1:w5.cell? ⟨wr.heap.size,1,none⟩=some (.int .i64 t.op):=(World.cell?_of_block (w:=w4) (ht5.block (wr.heap.size) (by omega))).trans kl1
     have um0:w5.cell? ⟨wr.heap.size+1,0,none⟩=some (.int .i64 v.kind):=(World.cell?_of_block (w:=w4) (ht5.block (wr.heap.size+1) (by omega))).trans ul0
     have um1:w5.cell? ⟨wr.heap.size+1,1,none⟩=some (.int .i64 v.num):=(World.cell?_of_block (w:=w4) (ht5.block (wr.heap.size+1) (by omega))).trans ul1
     have um2:w5.cell? ⟨wr.heap.size+1,2,none⟩=some (.string v.sym):=(World.cell?_of_block (w:=w4) (ht5.block (wr.heap.size+1) (by omega))).trans ul2
     clear hq5 ht5 kl1 ul0 ul1 ul2 y0 y1 y2 zf zf0 zf1 zf2 R4 D4 BX4 BX
     cases hm:meets t.op v wv
     ·have HNO:=hidM (show agT o t v=none by unfold agT;rw [if_neg (by omega),if_neg (by omega),if_pos hk3,HWI.out,if_neg (by rw [hm];simp)])
      have L3:=hidM (zc2 v wv t.op w5)
      rw [hm] at L3
      clear hm hk3
      go_wp2_with fail
      refine L3.out.mono ?_
      rintro e w8 ⟨rfl,hb8⟩
      have D8:=hidM (D5.out.trans (hb8.mono D5.out.size))
      clear hb8 L3
      go_wp2_with fail
      refine bodyPost_ret (v:=.tuple #[.slice none 0 0,.bool false]) (by simp [results,Tryz.results99,go_sem]) rfl ?_
      exact zbB.no (NONE.out HNO.out) (H0.out.trans (D8.out.mono H0.out.size))
     ·have HSO:=hidM (show agT o t v=some o by unfold agT;rw [if_neg (by omega),if_neg (by omega),if_pos hk3,HWI.out,if_pos hm])
      have L3:=hidM (zc2 v wv t.op w5)
      rw [hm] at L3
      clear hm hk3
      go_wp2_with fail
      refine L3.out.mono ?_
      rintro e w8 ⟨rfl,hb8⟩
      have R8:=hidM (zai R5.out hb8)
      have D8:=hidM (D5.out.trans (hb8.mono D5.out.size))
      clear hb8 L3
      go_wp2_with fail
      go_roundw
      case rel=>exact ⟨k+1,o,a,c,by go_num,by omega,rfl,SOME.out _ HSO.out,by omega,R8.out,D8.out⟩
      case measure=>(simp [intOf];omega)
   have b1:(t.kind==1)=false:=by simpa using hk1
   have b2:(t.kind==2)=false:=by simpa using hk2
   have b3:(t.kind==3)=false:=by simpa using hk3
   have HSO:=hidM (show agT o t v=some o by unfold agT;rw [if_neg hk1,if_neg hk2,if_neg hk3])
   go_wp2_with fail
   go_roundw
   case rel=>exact ⟨k+1,o,a,c,by go_num,by omega,rfl,SOME.out _ HSO.out,by omega,R2.out,D2.out⟩
   case measure=>(simp [intOf];omega)
  ·have hke:k=p.terms.length:=by omega
   subst hke
   have hy:¬ (p.terms.length:Int)<(p.terms.length:Int):=by omega
   have HR:=hidM (show agree p f bs=some o by rw [HG.out,List.drop_eq_nil_of_le (Nat.le_refl _)];rfl)
   go_wp2_with fail
   refine bodyPost_ret (v:=.tuple #[.slice a o.length c,.bool true]) (by simp [results,Tryz.results99,go_sem]) rfl ?_
   exact zbB.yes HR.out (zar ROW.out H0.out.size) HBW.out
end Go.Proofs.YtmmdlgjmplddiaaGreat
namespace Go.Proofs.YtmmdlgjmplddiaaGreat
theorem zlx {v o:V}:eqV v o=true ↔ v=o:=by
 unfold eqV
 constructor
 ·intro h
  simp only [Bool.and_eq_true,beq_iff_eq,decide_eq_true_eq] at h
  exact V.ext3 h.1 h.2.1 h.2.2
 ·rintro rfl
  simp
theorem ze7 (v o:V):meets 1 v o=decide (v=o):=by
 have:meets 1 v o=eqV v o:=by simp [meets]
 rw [this]
 by_cases h:v=o
 ·rw [decide_eq_true h];exact zlx.2 h
 ·rw [decide_eq_false h]
  cases he:eqV v o
  ·rfl
  ·exact absurd (zlx.1 he) h
def zbh (T:List F) (vs:List Vr) (ts:List Tm) (f:F) (i:Nat) (t:Tm):Bool:=
 (match zbx ts i t with | none=>true | some u=>zbv u f.slots) && (match jtOf vs ts i t with | none=>true | some u=>zaI T f u)
theorem zc7 {ts:List Tm}{i:Nat}{t:Tm} (h:ts[i]?=some t) (hk:t.kind≠2) (name:ByteArray):earlier ts (i+1) name=earlier ts i name:=by
 rw [zbt h,if_neg (fun e=>hk (zbn.1 e).1)]
 cases earlier ts i name <;> rfl
theorem zej {bs:List Bd}{ts:List Tm}{sl:List V}{i:Nat}{t:Tm}{v:V} (h:ts[i]?=some t) (hv:sl[i]?=some v) (hk:t.kind≠2):newB bs ts sl (i+1)=newB bs ts sl i:=by
 rw [zdW h hv,if_neg (fun e=>hk e.1),List.append_nil]
theorem ziW (vs:List V) (i:Nat):getI vs (i:Int)=vs[i]?:=by
 unfold getI
 rw [if_pos (by omega)]
 simp
theorem zex {sl:List V}{i:Nat}{v:V}{op:Int}{val:V} (h:sl[i]?=some v):zbv ⟨(i:Int),op,-1,val⟩ sl=meets op v val:=by
 unfold zbv
 simp only [ziW,h]
 rw [if_pos trivial]
theorem zf5 {sl:List V}{i j:Nat}{v u:V}{op:Int}{val:V} (h:sl[i]?=some v) (hj:sl[j]?=some u):zbv ⟨(i:Int),op,(j:Int),val⟩ sl=meets op v u:=by
 unfold zbv
 simp only [ziW,h,hj]
 rw [if_neg (by omega)]
theorem zhm {T:List F}{f:F}{i:Nat}{v:V}{op:Int}{x:Vr} (h:f.slots[i]?=some v):zaI T f ⟨i,op,x.fact,x.slot⟩=meets op v (zdx T x):=by
 unfold zaI zdx
 simp only [h]
 rfl
theorem zdq {s:ByteArray}:s.toList.isEmpty=true ↔ s=⟨#[]⟩:=by
 constructor
 ·intro h
  have h2:(s.toList==(⟨#[]⟩:ByteArray).toList)=true:=by rw [List.isEmpty_iff.1 h,emM];rfl
  rw [zaM] at h2
  simpa using h2
 ·rintro rfl
  rw [emM];rfl
section
variable {T : List F} {vs : List Vr} {f : F} {ts : List Tm} {i : Nat} {t : Tm} {v : V}
theorem ziS (hl:ts.length=f.slots.length) (hi:i≤ts.length) (name:ByteArray):zbl (envB T vs ++ newB (envB T vs) ts f.slots i) name=(match zbl (envB T vs) name with | some x=>some x | none=>(earlier ts i name).bind (fun j=>f.slots[j]?)):=by
 rw [zdh]
 cases h:zbl (envB T vs) name with
 | some x=>rfl
 | none=>exact zfY hl h i hi
def Fits (T:List F) (vs:List Vr) (ts:List Tm) (f:F) (i:Nat):Prop:=∀ name x j,zbl (envB T vs) name=some x→earlier ts i name=some j→f.slots[j]?=some x
theorem zlA (hk:t.kind=0) (hvar:t.var=⟨#[]⟩) (ht:ts[i]?=some t) (hv:f.slots[i]?=some v) (hE:zaV vs ⟨#[]⟩=none) (H1:Fits T vs ts f i) :
  agT (envB T vs ++ newB (envB T vs) ts f.slots i) t v=(if zbh T vs ts f i t=true then some (envB T vs ++ newB (envB T vs) ts f.slots (i+1)) else none)∧(zbh T vs ts f i t=true→Fits T vs ts f (i+1)):=by
 have h1:zbx ts i t=none:=by unfold zbx;rw [if_pos (by simp [hk])]
 have h2:jtOf vs ts i t=none:=by unfold jtOf;rw [hvar,hE]
 have h3:zbh T vs ts f i t=true:=by unfold zbh;rw [h1,h2];rfl
 rw [if_pos h3,zej ht hv (by omega)]
 refine ⟨?_,fun _ name x j hx hj=>H1 name x j hx (by rwa [zc7 ht (by omega)] at hj)⟩
 unfold agT
 rw [if_neg (by omega),if_neg (by omega),if_neg (by omega)]
theorem zln (hk:t.kind=1) (hvar:t.var=⟨#[]⟩) (ht:ts[i]?=some t) (hv:f.slots[i]?=some v) (hE:zaV vs ⟨#[]⟩=none) (H1:Fits T vs ts f i) :
  agT (envB T vs ++ newB (envB T vs) ts f.slots i) t v=(if zbh T vs ts f i t=true then some (envB T vs ++ newB (envB T vs) ts f.slots (i+1)) else none)∧(zbh T vs ts f i t=true→Fits T vs ts f (i+1)):=by
 have h1:zbx ts i t=some ⟨(i:Int),1,-1,t.val⟩:=by
  unfold zbx tmOp
  rw [if_neg (by simp [hk]),if_pos (zdq.2 hvar),if_neg (by simp [hk])]
 have h2:jtOf vs ts i t=none:=by unfold jtOf;rw [hvar,hE]
 have h3:zbh T vs ts f i t=decide (v=t.val):=by unfold zbh;rw [h1,h2];simp only [zex hv,ze7,Bool.and_true]
 rw [h3,zej ht hv (by omega)]
 refine ⟨?_,fun _ name x j hx hj=>H1 name x j hx (by rwa [zc7 ht (by omega)] at hj)⟩
 unfold agT
 rw [if_pos hk]
 by_cases h:v=t.val
 ·rw [if_pos h,if_pos (decide_eq_true h)]
 ·rw [if_neg h,if_neg (by simpa using h)]
theorem zkZ (hk:t.kind=3) (hl:ts.length=f.slots.length) (ht:ts[i]?=some t) (hv:f.slots[i]?=some v) (hE:zaV vs ⟨#[]⟩=none) (hK:t.var≠⟨#[]⟩→zaV vs t.var≠none∨earlier ts i t.var≠none) (H1:Fits T vs ts f i) :
  agT (envB T vs ++ newB (envB T vs) ts f.slots i) t v=(if zbh T vs ts f i t=true then some (envB T vs ++ newB (envB T vs) ts f.slots (i+1)) else none)∧(zbh T vs ts f i t=true→Fits T vs ts f (i+1)):=by
 have hil:i<ts.length:=(List.getElem?_eq_some_iff.1 ht).1
 rw [zej ht hv (by omega)]
 refine ⟨?_,fun _ name x j hx hj=>H1 name x j hx (by rwa [zc7 ht (by omega)] at hj)⟩
 unfold agT
 rw [if_neg (by omega),if_neg (by omega),if_pos hk]
 by_cases hvar:t.var=⟨#[]⟩
 ·have h1:zbx ts i t=some ⟨(i:Int),t.op,-1,t.val⟩:=by
   unfold zbx tmOp
   rw [if_neg (by simp [hk]),if_pos (zdq.2 hvar),if_pos (by simp [hk])]
  have h2:jtOf vs ts i t=none:=by unfold jtOf;rw [hvar,hE]
  have h3:zbh T vs ts f i t=meets t.op v t.val:=by unfold zbh;rw [h1,h2];simp only [zex hv,Bool.and_true]
  rw [h3,if_pos hvar]
 ·have hne:¬ t.var.toList.isEmpty=true:=fun h=>hvar (zdq.1 h)
  rw [if_neg hvar,ziS hl (Nat.le_of_lt hil),zcW]
  cases he:earlier ts i t.var with
  | some j=>
   have hj:j<f.slots.length:=by
    have:=zcG he
    simp at this
    omega
   have h1:zbx ts i t=some ⟨(i:Int),t.op,(j:Int),zVa⟩:=by
    unfold zbx tmOp
    rw [if_neg (by simp [hk]),if_neg hne,he]
    simp [hk]
   have h2:jtOf vs ts i t=none:=by
    unfold jtOf
    cases zaV vs t.var with
    | none=>rfl
    | some x=>simp only [he]
   have h3:zbh T vs ts f i t=meets t.op v f.slots[j]:=by unfold zbh;rw [h1,h2];simp only [zf5 hv (List.getElem?_eq_getElem hj),Bool.and_true]
   have h4:((match (zaV vs t.var).map (zdx T) with | some x=>some x | none=>(some j).bind (fun j=>f.slots[j]?)).getD zVm)=f.slots[j]:=by
    cases hlk:zaV vs t.var with
    | none=>simp [hj]
    | some x=>
     have:=H1 t.var (zdx T x) j (by rw [zcW,hlk];rfl) he
     rw [List.getElem?_eq_getElem hj] at this
     injection this with this
     simp [this]
   rw [h3,h4]
  | none=>
   cases hlk:zaV vs t.var with
   | none=>rcases hK hvar with h | h;exact absurd hlk h;exact absurd he h
   | some x=>
    have h1:zbx ts i t=none:=by
     unfold zbx
     rw [if_neg (by simp [hk]),if_neg hne,he]
    have h2:jtOf vs ts i t=some ⟨i,t.op,x.fact,x.slot⟩:=by
     unfold jtOf tmOp
     rw [hlk]
     simp only [he]
     simp [hk]
    have h3:zbh T vs ts f i t=meets t.op v (zdx T x):=by unfold zbh;rw [h1,h2];simp only [zhm hv,Bool.true_and]
    rw [h3]
    rfl
theorem zkF (hk:t.kind=2) (hvar:t.var≠⟨#[]⟩) (hl:ts.length=f.slots.length) (ht:ts[i]?=some t) (hv:f.slots[i]?=some v) (H1:Fits T vs ts f i) :
  agT (envB T vs ++ newB (envB T vs) ts f.slots i) t v=(if zbh T vs ts f i t=true then some (envB T vs ++ newB (envB T vs) ts f.slots (i+1)) else none)∧(zbh T vs ts f i t=true→Fits T vs ts f (i+1)):=by
 have hil:i<ts.length:=(List.getElem?_eq_some_iff.1 ht).1
 have hne:¬ t.var.toList.isEmpty=true:=fun h=>hvar (zdq.1 h)
 have hop:tmOp t=1:=by unfold tmOp;rw [if_neg (by simp [hk])]
 have ag:∀ out,agT out t v=(match zbl out t.var with | some old=>if old=v then some out else none | none=>some (out ++ [⟨t.var,v⟩])):=by
  intro out
  unfold agT
  rw [if_neg (by omega),if_pos hk]
  cases zbl out t.var <;> rfl
 rw [ag,ziS hl (Nat.le_of_lt hil),zdW ht hv]
 cases he:earlier ts i t.var with
 | some j=>
  have hj:j<f.slots.length:=by
   have:=zcG he
   simp at this
   omega
  have h1:zbx ts i t=some ⟨(i:Int),1,(j:Int),zVa⟩:=by
   unfold zbx
   rw [if_neg (by simp [hk]),if_neg hne,he,hop]
  have h2:jtOf vs ts i t=none:=by
   unfold jtOf
   cases zaV vs t.var with
   | none=>rfl
   | some x=>simp only [he]
  have h3:zbh T vs ts f i t=decide (v=f.slots[j]):=by unfold zbh;rw [h1,h2];simp only [zf5 hv (List.getElem?_eq_getElem hj),ze7,Bool.and_true]
  have h4:(match zbl (envB T vs) t.var with | some x=>some x | none=>(some j).bind (fun j=>f.slots[j]?))=some f.slots[j]:=by
   cases hlk:zbl (envB T vs) t.var with
   | none=>simp [hj]
   | some x=>
    have:=H1 t.var x j hlk he
    rw [List.getElem?_eq_getElem hj] at this
    injection this with this
    simp [this]
  rw [h4,h3,if_neg (c:=t.kind=2∧_) (fun e=>by cases e.2.2),List.append_nil]
  refine ⟨?_,fun _ name x j' hx hj'=>?_⟩
  ·by_cases h:v=f.slots[j]
   ·simp [h]
   ·show (if f.slots[j]=v then _ else _)=_
    rw [if_neg (fun e=>h e.symm),if_neg (by simpa using h)]
  ·rw [zbt ht] at hj'
   cases hen:earlier ts i name with
   | some j2=>rw [hen] at hj';injection hj' with hj';subst hj';exact H1 name x j2 hx hen
   | none=>
    rw [hen] at hj'
    simp only at hj'
    split at hj'
    ·rename_i hv2
     rw [(zbn.1 hv2).2] at he
     rw [he] at hen
     cases hen
    ·cases hj'
 | none=>
  have h1:zbx ts i t=none:=by
   unfold zbx
   rw [if_neg (by simp [hk]),if_neg hne,he]
  cases hlk:zaV vs t.var with
  | none=>
   have hlb:zbl (envB T vs) t.var=none:=by rw [zcW,hlk];rfl
   have h2:jtOf vs ts i t=none:=by unfold jtOf;rw [hlk]
   have h3:zbh T vs ts f i t=true:=by unfold zbh;rw [h1,h2];rfl
   rw [hlb,h3,if_pos rfl,if_pos ⟨hk,rfl,rfl⟩]
   refine ⟨by simp,fun _ name x j' hx hj'=>?_⟩
   rw [zbt ht] at hj'
   cases hen:earlier ts i name with
   | some j2=>rw [hen] at hj';injection hj' with hj';subst hj';exact H1 name x j2 hx hen
   | none=>
    rw [hen] at hj'
    simp only at hj'
    split at hj'
    ·rename_i hv2
     rw [← (zbn.1 hv2).2,hlb] at hx
     cases hx
    ·cases hj'
  | some x=>
   have hlb:zbl (envB T vs) t.var=some (zdx T x):=by rw [zcW,hlk];rfl
   have h2:jtOf vs ts i t=some ⟨i,1,x.fact,x.slot⟩:=by
    unfold jtOf
    rw [hlk]
    simp only [he,hop]
   have h3:zbh T vs ts f i t=decide (v=zdx T x):=by unfold zbh;rw [h1,h2];simp only [zhm hv,ze7,Bool.true_and]
   rw [hlb,h3,if_neg (c:=t.kind=2∧_) (fun e=>by cases e.2.1),List.append_nil]
   refine ⟨?_,fun hok name y j' hx hj'=>?_⟩
   ·by_cases h:v=zdx T x
    ·simp [h]
    ·show (if zdx T x=v then _ else _)=_
     rw [if_neg (fun e=>h e.symm),if_neg (by simpa using h)]
   ·rw [zbt ht] at hj'
    cases hen:earlier ts i name with
    | some j2=>rw [hen] at hj';injection hj' with hj';subst hj';exact H1 name y j2 hx hen
    | none=>
     rw [hen] at hj'
     simp only at hj'
     split at hj'
     ·rename_i hv2
      injection hj' with hj'
      subst hj'
      rw [← (zbn.1 hv2).2,hlb] at hx
      injection hx with hx
      rw [hv,of_decide_eq_true hok,hx]
     ·cases hj'
end
end Go.Proofs.YtmmdlgjmplddiaaGreat
namespace Go.Proofs.YtmmdlgjmplddiaaGreat
section
variable {T : List F} {vs : List Vr} {f : F} {ts : List Tm}
def zdt (T:List F) (vs:List Vr) (ts:List Tm) (f:F):Nat→Bool
 | 0=>true
 | i+1=>zdt T vs ts f i && (match ts[i]? with | none=>true | some t=>zbh T vs ts f i t)
theorem zeY {i:Nat}{t:Tm} (h:ts[i]?=some t):zdt T vs ts f (i+1)=(zdt T vs ts f i && zbh T vs ts f i t):=by simp [zdt,h]
theorem zeV {i:Nat}:∀ n,i≤n→zdt T vs ts f n=true→zdt T vs ts f i=true
 | 0,h,hn=>by
  have:i=0:=by omega
  subst this
  exact hn
 | n+1,h,hn=>by
  by_cases he:i=n+1
  ·subst he;exact hn
  ·simp only [zdt,Bool.and_eq_true] at hn
   exact zeV n (by omega) hn.1
theorem zhq:∀ n,zdt T vs ts f n=((zag ts n).all (fun t=>zbv t f.slots) && (zat vs ts n).all (zaI T f))
 | 0=>rfl
 | n+1=>by
  simp only [zdt,zag,zat,List.all_append]
  rw [zhq n]
  cases ts[n]? with
  | none=>simp
  | some t=>
   simp only [zbh]
   cases zbx ts n t <;> cases jtOf vs ts n t <;> simp [Bool.and_assoc,Bool.and_left_comm,Bool.and_comm]
theorem zlu {s:ByteArray} (h:gSym s.data.toList=true):s≠⟨#[]⟩:=by
 rintro rfl
 revert h
 decide
theorem zl9 {i:Nat}{t:Tm}{v:V} (hg:gTm t=true) (hl:ts.length=f.slots.length) (ht:ts[i]?=some t) (hv:f.slots[i]?=some v) (hE:zaV vs ⟨#[]⟩=none) (hK:t.kind=3→t.var≠⟨#[]⟩→zaV vs t.var≠none∨earlier ts i t.var≠none) (H1:Fits T vs ts f i) :
  agT (envB T vs ++ newB (envB T vs) ts f.slots i) t v=(if zbh T vs ts f i t=true then some (envB T vs ++ newB (envB T vs) ts f.slots (i+1)) else none)∧(zbh T vs ts f i t=true→Fits T vs ts f (i+1)):=by
 unfold gTm at hg
 by_cases h0:t.kind=0
 ·rw [if_pos (by simpa using h0)] at hg
  simp only [Bool.and_eq_true] at hg
  exact zlA h0 (zdq.1 hg.2.1) ht hv hE H1
 rw [if_neg (by simpa using h0)] at hg
 by_cases h1:t.kind=1
 ·rw [if_pos (by simpa using h1)] at hg
  simp only [Bool.and_eq_true] at hg
  exact zln h1 (zdq.1 hg.2.1) ht hv hE H1
 rw [if_neg (by simpa using h1)] at hg
 by_cases h2:t.kind=2
 ·rw [if_pos (by simpa using h2)] at hg
  simp only [Bool.and_eq_true] at hg
  exact zkF h2 (zlu hg.2.1) hl ht hv H1
 rw [if_neg (by simpa using h2)] at hg
 by_cases h3:t.kind=3
 ·exact zkZ h3 hl ht hv hE (hK h3) H1
 ·rw [if_neg (by simpa using h3)] at hg
  cases hg
theorem zj9 (hg:∀ t∈ts,gTm t=true) (hl:ts.length=f.slots.length) (hE:zaV vs ⟨#[]⟩=none) (hK:∀ i t,ts[i]?=some t→t.kind=3→t.var≠⟨#[]⟩→zaV vs t.var≠none∨earlier ts i t.var≠none):∀ (d i:Nat),i+d=ts.length→zdt T vs ts f i=true→Fits T vs ts f i →
  agGo (envB T vs ++ newB (envB T vs) ts f.slots i) (ts.drop i) (f.slots.drop i)=(if zdt T vs ts f ts.length=true then some (envB T vs ++ newB (envB T vs) ts f.slots ts.length) else none)
 | 0,i,hi,hok,_=>by
  have:i=ts.length:=by omega
  subst this
  rw [if_pos hok,List.drop_eq_nil_of_le (Nat.le_refl _)]
  rfl
 | d+1,i,hi,hok,hf=>by
  obtain ⟨t,ht⟩:∃ t,ts[i]?=some t:=⟨ts[i],by simp⟩
  obtain ⟨v,hv⟩:∃ v,f.slots[i]?=some v:=⟨f.slots[i],by simp⟩
  obtain ⟨h1,h2⟩:=zl9 (T:=T) (hg t (List.mem_of_getElem? ht)) hl ht hv hE (hK i t ht) hf
  rw [zan ht,zan hv,zdS,h1]
  by_cases hk:zbh T vs ts f i t=true
  ·rw [if_pos hk]
   exact zj9 hg hl hE hK d (i+1) (by omega) (by rw [zeY ht,hok,hk];rfl) (h2 hk)
  ·rw [if_neg hk,if_neg (fun hn=>hk (by have:=zeV (i:=i+1) ts.length (by omega) hn;rw [zeY ht,hok] at this;simpa using this))]
theorem zmo {p:Pt} (hg:gPt p=true) (hE:zaV vs ⟨#[]⟩=none) (hK:∀ i t,p.terms[i]?=some t→t.kind=3→t.var≠⟨#[]⟩→zaV vs t.var≠none∨earlier p.terms i t.var≠none) :
  agree p f (envB T vs)=(if (passes (zaB p) f && (zat vs p.terms p.terms.length).all (zaI T f))=true then some (envB T vs ++ newB (envB T vs) p.terms f.slots p.terms.length) else none):=by
 have hal:zaB p=⟨p.cls,(p.terms.length:Int),zag p.terms p.terms.length⟩:=if_pos hg
 have hgt:∀ t∈p.terms,gTm t=true:=by
  unfold gPt at hg
  simp only [Bool.and_eq_true] at hg
  exact List.all_eq_true.1 hg.2.2
 unfold agree
 rw [hal]
 by_cases hc:p.cls=f.cls∧p.terms.length=f.slots.length
 ·have hp:passes ⟨p.cls,(p.terms.length:Int),zag p.terms p.terms.length⟩ f=(zag p.terms p.terms.length).all (fun t=>zbv t f.slots):=by
   unfold passes
   rw [decide_eq_true (by rw [hc.1]),decide_eq_true (by simp;omega)]
   simp
  rw [if_pos hc,hp,← zhq]
  have:=zj9 (T:=T) hgt hc.2 hE hK p.terms.length 0 (by omega) rfl (fun name x j _ h=>by simp [earlier,za9] at h)
  simpa [newB] using this
 ·rw [if_neg hc]
  have hp:passes ⟨p.cls,(p.terms.length:Int),zag p.terms p.terms.length⟩ f=false:=by
   unfold passes
   by_cases h1:p.cls=f.cls
   ·rw [decide_eq_false (p:=(f.slots.length:Int)=_) (by simp;intro e;exact hc ⟨h1,by omega⟩)]
    simp
   ·rw [decide_eq_false (p:=f.cls.toList=_) (by
     intro e
     have h2:(f.cls.toList==p.cls.toList)=true:=by simpa using e
     rw [zaM] at h2
     exact h1 (by simpa using (Eq.symm (by simpa using h2:f.cls=p.cls))))]
    rfl
  rw [hp]
  rfl
end
end Go.Proofs.YtmmdlgjmplddiaaGreat
namespace Go.Proofs.YtmmdlgjmplddiaaGreat
theorem zez (s:ByteArray) (b:List Vr):∀ a:List Vr,zaV (a ++ b) s=(match zaV a s with | some x=>some x | none=>zaV b s)
 | []=>rfl
 | x :: r=>by
  rw [List.cons_append,zcY,zcY]
  by_cases h:x.name=s
  ·rw [if_pos h,if_pos h]
  ·rw [if_neg h,if_neg h];exact zez s b r
section
variable {T : List F} {vs : List Vr} {f : F} {ts : List Tm} {n : Nat}
theorem zcv (name:ByteArray):∀ i,i≤ts.length→((zaV (zao vs ts n i) name=none) ↔ (zaV vs name=none∧earlier ts i name=none))
 | 0,_=>by simp [zao,earlier,za9]
 | i+1,hi=>by
  obtain ⟨t,ht⟩:∃ t,ts[i]?=some t:=⟨ts[i],by simp⟩
  have ih:=zcv name i (by omega)
  have iht:(zaV (zao vs ts n i) t.var=none) ↔ (zaV vs t.var=none∧earlier ts i t.var=none):=zcv t.var i (by omega)
  rw [zct ht,zbt ht]
  by_cases h:t.kind=2∧zaV (zao vs ts n i) t.var=none
  ·rw [if_pos h,zez]
   cases hb:zaV (zao vs ts n i) name with
   | some x=>
    have hn:¬ (zaV vs name=none∧earlier ts i name=none):=fun e=>by rw [ih.2 e] at hb;cases hb
    constructor
    ·intro e;cases e
    ·rintro ⟨e1,e2⟩
     exfalso
     apply hn
     refine ⟨e1,?_⟩
     cases he:earlier ts i name with
     | none=>rfl
     | some j=>rw [he] at e2;cases e2
   | none=>
    obtain ⟨h1,h2⟩:=ih.1 hb
    rw [h2]
    by_cases hv:t.var=name
    ·rw [if_pos (zbn.2 ⟨h.1,hv⟩)]
     simp [zaV,hv]
    ·rw [if_neg (fun e=>hv (zbn.1 e).2)]
     simp [zaV,hv,h1]
  ·rw [if_neg h,ih]
   constructor
   ·rintro ⟨h1,h2⟩
    refine ⟨h1,?_⟩
    rw [h2]
    refine if_neg (fun e=>h ?_)
    obtain ⟨k2,kv⟩:=zbn.1 e
    subst kv
    exact ⟨k2,iht.2 ⟨h1,h2⟩⟩
   ·rintro ⟨h1,h2⟩
    refine ⟨h1,?_⟩
    cases he:earlier ts i name with
    | none=>rfl
    | some j=>rw [he] at h2;cases h2
theorem zh5 (T:List F) (a b:List Vr):envB T (a ++ b)=envB T a ++ envB T b:=by simp [envB]
theorem zhJ {name:ByteArray}:(zbl (envB T vs) name=none) ↔ zaV vs name=none:=by
 rw [zcW]
 cases zaV vs name <;> simp
theorem zkU {i:Nat}{v:V} (name:ByteArray) (hv:f.slots[i]?=some v):zdx (T ++ [f]) ⟨name,T.length,i⟩=v:=by
 unfold zdx
 simp [hv]
theorem zlq {x:Vr} (hx:x.fact<T.length):zdx (T ++ [f]) x=zdx T x:=by
 unfold zdx
 rw [List.getElem?_append_left hx]
theorem zl2 (h:∀ x∈vs,x.fact<T.length):envB (T ++ [f]) vs=envB T vs:=by
 unfold envB
 exact List.map_congr_left (fun x hx=>by rw [zlq (h x hx)])
theorem zg9 (hl:ts.length=f.slots.length) (h:∀ x∈vs,x.fact<T.length):∀ i,i≤ts.length→envB (T ++ [f]) (zao vs ts T.length i)=envB T vs ++ newB (envB T vs) ts f.slots i
 | 0,_=>by simp [zao,newB,zl2 h]
 | i+1,hi=>by
  obtain ⟨t,ht⟩:∃ t,ts[i]?=some t:=⟨ts[i],by simp⟩
  obtain ⟨v,hv⟩:∃ v,f.slots[i]?=some v:=⟨f.slots[i],by simp⟩
  have ih:=zg9 hl h i (by omega)
  have hb:=zcv (vs:=vs) (ts:=ts) (n:=T.length) t.var i (by omega)
  rw [zct ht,zdW ht hv]
  by_cases hc:t.kind=2∧zaV (zao vs ts T.length i) t.var=none
  ·rw [if_pos hc,zh5,ih,if_pos ⟨hc.1,zhJ.2 (hb.1 hc.2).1,(hb.1 hc.2).2⟩,List.append_assoc]
   congr 2
   simp [envB,zkU t.var hv]
  ·rw [if_neg hc,ih,if_neg (fun e=>hc ⟨e.1,hb.2 ⟨zhJ.1 e.2.1,e.2.2⟩⟩),List.append_nil]
theorem zcx (h:∀ x∈vs,x.fact<n):∀ i,∀ x∈zao vs ts n i,x.fact<n+1
 | 0,x,hx=>by have:=h x hx;omega
 | i+1,x,hx=>by
  simp only [zao] at hx
  cases ht:ts[i]? with
  | none=>rw [ht] at hx;exact zcx h i x hx
  | some t=>
   rw [ht] at hx
   simp only at hx
   split at hx
   ·rcases List.mem_append.1 hx with hx | hx
    ·exact zcx h i x hx
    ·simp at hx
     subst hx
     simp
   ·exact zcx h i x hx
end
end Go.Proofs.YtmmdlgjmplddiaaGreat
namespace Go.Proofs.YtmmdlgjmplddiaaGreat
open Go.RowKit
theorem zbB.elimNo {p:Pt}{f:F}{bs:List Bd}{w w':World}{e:Ending} (h:zbB p f bs w e w') (hn:agree p f bs=none):e=.returned (.tuple #[.slice none 0 0,.bool false])∧Below w.heap.size w w':=by
 unfold zbB at h
 rw [hn] at h
 exact h
theorem zbB.elimYes {p:Pt}{f:F}{bs o:List Bd}{w w':World}{e:Ending} (h:zbB p f bs w e w') (hn:agree p f bs=some o):∃ a c,e=.returned (.tuple #[.slice a o.length c,.bool true])∧w'.ownsRow w.heap.size 220 4 (.slice a o.length c) o.length (o.flatMap zba)∧Below w.heap.size w w':=by
 unfold zbB at h
 rw [hn] at h
 obtain ⟨⟨a,c,he,ho⟩,hb⟩:=h
 exact ⟨a,c,he,ho,hb⟩
abbrev PmX:=Pm × Value × Value
def zcL (x:PmX):List Value:=[x.2.1,x.2.2]
structure PmP (w:World) (base:Nat) (x:PmX):Prop where
 ts:∃ a c,x.2.1=.slice a x.1.tags.length c
 bs:∃ a c,x.2.2=.slice a x.1.binds.length c
 ot:w.ownsRow base 3 1 x.2.1 x.1.tags.length (icells x.1.tags)
 ob:w.ownsRow base 220 4 x.2.2 x.1.binds.length (x.1.binds.flatMap zba)
structure MO (w:World) (b1 base:Nat) (a:Option Addr) (c:Nat) (L:List PmX):Prop where
 row:w.ownsRow b1 91 2 (.slice a L.length c) L.length (L.flatMap zcL)
 all:∀ x∈L,PmP w base x
theorem MO.nil (w:World) (b1 base:Nat):MO w b1 base none 0 []:=⟨World.ownsRow_nil _ _ _ _,fun x hx=>by simp at hx⟩
theorem PmP.bel {w w':World}{base:Nat}{x:PmX} (h:PmP w base x) (hb:Below w.heap.size w w'):PmP w' base x:=⟨h.ts,h.bs,zai h.ot hb,zai h.ob hb⟩
theorem MO.bel {w w':World}{b1 base:Nat}{a:Option Addr}{c:Nat}{L:List PmX} (h:MO w b1 base a c L) (hb:Below w.heap.size w w'):MO w' b1 base a c L:=⟨zai h.row hb,fun x hx=>(h.all x hx).bel hb⟩
theorem PmP.grown {w w':World}{base:Nat}{t:TypeId}{x:PmX}{row:Option Nat} (h:PmP w base x) (hg:w.grownBy w' row) (ht:∀ k,row=some k→∃ c,w.heap[k]?=some (.cells c t (0,0))) (h1:t≠3) (h2:t≠220):PmP w' base x:=⟨h.ts,h.bs,zby h.ot hg ht h1,zby h.ob hg ht h2⟩
theorem MO.snoc {w w':World}{b1 base:Nat}{a a':Option Addr}{c c':Nat}{L:List PmX}{x:PmX} (h:MO w b1 base a c L) (hx:PmP w base x) (ho:w'.ownsRow b1 91 2 (.slice a' (L.length+1) c') (L.length+1) (L.flatMap zcL ++ zcL x)) (hg:w.grownBy w' (Value.slice a L.length c).ownBlock):MO w' b1 base a' c' (L ++ [x]):=by
 refine ⟨by simpa using ho,fun y hy=>?_⟩
 have hy':PmP w base y:=by
  rcases List.mem_append.1 hy with hy | hy
  ·exact h.all y hy
  ·simp at hy
   subst hy
   exact hx
 exact hy'.grown hg (fun k hk=>zah h.row hk) (by decide) (by decide)
theorem MO.get {w:World}{b1 base:Nat}{a:Option Addr}{c:Nat}{L:List PmX} (h:MO w b1 base a c L) {i:Nat}{x:PmX} (hi:L[i]?=some x) :
  ∃ k,a=some ⟨k,0,none⟩∧k<w.heap.size∧w.cell? ⟨k,i * 2,none⟩=some x.2.1∧w.cell? ⟨k,i * 2+1,none⟩=some x.2.2:=by
 have key:=fun j u (hj:(zcL x)[j]?=some u)=>zam h.row (zbe (cells:=zcL) (m:=2) (fun _=>rfl) L i x j u hi hj)
 obtain ⟨k,rfl,_,h0,_⟩:=key 0 _ rfl
 obtain ⟨k1,e1,_,h1,_⟩:=key 1 _ rfl
 cases e1
 exact ⟨k,rfl,World.block_lt_of_cell? w ⟨k,_,none⟩ h0,h0,h1⟩
theorem zdE {w:World}{base:Nat}{x:PmX} (h:PmP w base x):∀ u∈zcL x,u.oneCell'=true:=by
 obtain ⟨⟨a,c,h1⟩,⟨a',c',h2⟩,_,_⟩:=h
 intro u hu
 simp [zcL] at hu
 rcases hu with rfl | rfl
 ·rw [h1];rfl
 ·rw [h2];rfl
theorem ziH:(Tryz.prog.info? 91).map (fun i=>(i.zero,i.size,i.bytes))=some (some (.agg #[.slice none 0 0,.slice none 0 0]),2,48):=by kernel_rfl
theorem zep:(Tryz.prog.info? 3).map (fun i=>(i.zero,i.size,i.bytes))=some (some (.int .i64 0),1,8):=by kernel_rfl
theorem zmE {w:World}{base:Nat}{xs:List Int}{a:Option Addr}{c:Nat} (h:w.ownsRow base 3 1 (.slice a xs.length c) xs.length (icells xs)) (e:a=none):xs.length=0:=by
 subst e
 rcases h.2 with ⟨_,h0⟩ | ⟨g,cap,cur,hv,_⟩
 ·exact h0
 ·cases hv
theorem znW {w:World}{base:Nat}{xs:List Int}{a:Option Addr}{c:Nat} (h:w.ownsRow base 3 1 (.slice a xs.length c) xs.length (icells xs)) (ad:Addr) (e:a=some ad) (j:Nat) (u:Value) (hu:(icells xs)[j]?=some u):w.cell? (ad.add j)=some u:=by
 obtain ⟨g,he,_,hc,_⟩:=zam h hu
 rw [e] at he
 cases he
 rw [Addr.add_mid,Nat.zero_add]
 exact hc
theorem zmz (xs:List Int):∀ u∈icells xs,u.oneCell'=true:=by
 intro u hu
 simp [icells] at hu
 obtain ⟨x,_,rfl⟩:=hu
 rfl
theorem zmJ (xs:List Int):(icells xs).length=xs.length * 1:=by simp [icells]
theorem ze4 (xs:List Int) (x:Int):icells (xs ++ [x])=icells xs ++ [.int .i64 x]:=by simp [icells]
theorem cells2M {w:World}{b:Nat}{ty:TypeId}{x0 x1:Value} (h:w.heap[b]?=some (.cells #[x0,x1] ty (0,0))):w.cell? ⟨b,0,none⟩=some x0∧w.cell? ⟨b,1,none⟩=some x1:=by
 refine ⟨?_,?_⟩ <;> simp [World.cell?,h]
theorem zaG.getM {w:World}{a:Option Addr}{fs:List F} (h:zaG w a fs) {i:Nat}{f:F} (hi:fs[i]?=some f):∃ b o,a=some ⟨b,o,none⟩∧b<w.heap.size∧w.cell? ⟨b,o+i * 3,none⟩=some (.int .i64 f.tag)∧w.cell? ⟨b,o+i * 3+1,none⟩=some (.string f.cls)∧∃ a' c,w.cell? ⟨b,o+i * 3+2,none⟩=some (.slice a' f.slots.length c)∧zaY w a' f.slots:=by
 obtain ⟨b,o,e,h1,h2,a',c,h3,h4⟩:=h i f hi
 exact ⟨b,o,e,ziM h1,h1,h2,a',c,h3,h4⟩
def anyH (p:Pt) (x:Pm) (l:List F):Bool:=decide (0<(hits p x l).length)
def zcQ (p:Pt) (x:Pm) (l:List F):List Pm:=if p.neg=true then [] else hits p x l
theorem znd {p:Pt}{x:Pm}{l:List F}{f:F} (h:agree p f x.binds=none):anyH p x (l ++ [f])=anyH p x l:=by unfold anyH;rw [zdl,h];simp
theorem zlZ {p:Pt}{x:Pm}{l:List F}{f:F}{o:List Bd} (h:agree p f x.binds=some o):anyH p x (l ++ [f])=true:=by unfold anyH;rw [zdl,h];simp
theorem zmi {p:Pt}{x:Pm}{l:List F}{f:F} (h:agree p f x.binds=none):zcQ p x (l ++ [f])=zcQ p x l:=by unfold zcQ;rw [zdl,h];simp
theorem zdL {p:Pt}{x:Pm}{l:List F} (h:p.neg=true):zcQ p x l=[]:=if_pos h
theorem zkm {p:Pt}{x:Pm}{l:List F}{f:F}{o:List Bd} (hn:p.neg=false) (h:agree p f x.binds=some o):zcQ p x (l ++ [f])=zcQ p x l ++ [⟨x.tags ++ [f.tag],o⟩]:=by
 unfold zcQ
 rw [if_neg (by rw [hn];simp),if_neg (by rw [hn];simp),zdl,h]
theorem zkv (p:Pt) (x:Pm) (l:List F):(zcQ p x l).length≤l.length:=by
 unfold zcQ
 split
 ·simp
 ·exact zeQ p x l
theorem zjI {p:Pt}{fs:List F}{x:Pm} (h:p.neg=false):zck p fs x=zcQ p x fs:=by
 unfold zck zcQ
 rw [if_neg (by rw [h];simp),if_neg (by rw [h];simp)]
theorem zgj {p:Pt}{fs:List F}{x:Pm} (h:p.neg=true) (b:Bool) (hb:b=anyH p x fs):zck p fs x=if b=true then [] else [x]:=by
 unfold zck
 rw [if_pos h]
 unfold anyH at hb
 by_cases h0:(hits p x fs).length=0
 ·rw [if_pos h0,hb,if_neg (by simp;exact List.eq_nil_of_length_eq_zero h0)]
 ·rw [if_neg h0,hb,if_pos (decide_eq_true (by omega))]
theorem zjA (p:Pt) (fs:List F) (X:List Pm) (k:Nat) (x:Pm) (h:X[k]?=some x):zbg p fs (X.take (k+1))=zbg p fs (X.take k) ++ zck p fs x:=by
 unfold zbg
 rw [List.take_add_one,h,List.flatMap_append]
 simp
theorem zdk (p:Pt) (fs:List F):∀ X:List Pm,(zbg p fs X).length≤X.length * (fs.length+1)
 | []=>by simp [zbg]
 | x :: r=>by
  have h1:=zdk p fs r
  have h2:=zjM p fs x
  have h3:zbg p fs (x :: r)=zck p fs x ++ zbg p fs r:=by unfold zbg;rw [List.flatMap_cons]
  rw [h3,List.length_append,List.length_cons,Nat.add_mul]
  omega
end Go.Proofs.YtmmdlgjmplddiaaGreat
