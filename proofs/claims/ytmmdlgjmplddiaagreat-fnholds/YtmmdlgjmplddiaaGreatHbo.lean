/-
  OUR OWN TEXT. L2c, Mm5, Mm6, Pq9, Pq10, Pq11, In0, An7, Nd2, Nd4, Mm7, one behind the other.
-/
import Derived.Test.YtmmdlgjmplddiaaGreatSc7m
import Derived.Test.YtmmdlgjmplddiaaGreatHam
import Derived.Test.YtmmdlgjmplddiaaGreatHax
import Derived.Test.YtmmdlgjmplddiaaGreatHai
import Derived.Test.YtmmdlgjmplddiaaGreatHau
import Derived.Test.YtmmdlgjmplddiaaGreatHaa
import Derived.Test.YtmmdlgjmplddiaaGreatHan
import Derived.Test.YtmmdlgjmplddiaaGreatHah
import Derived.Deep.RegionHeld3
namespace Go.Proofs.YtmmdlgjmplddiaaGreat
open Go.RowKit
attribute [local go_sem ↓] Go.wp_at_zero Go.wp_at_succ
theorem zfF:∀ (l pre:List Ru) (k:Nat),(zcD pre l k).1=0→zcD pre l k=(0,0,0)
 | [],_,_,_=>rfl
 | r :: s,pre,k,h=>by
  unfold zcD at h ⊢
  split
  ·rename_i h0
   rw [if_pos h0] at h
   exact zfF s _ _ h
  ·rename_i h0
   rw [if_neg h0] at h
   exact absurd h h0
theorem zlF {rs:List Ru} (h:(chk rs).1=0):chk rs=(0,0,0):=by
 unfold chk at h ⊢
 split
 ·rename_i h0
  rw [if_pos h0] at h
  exact zfF rs [] 0 h
 ·rename_i h0
  rw [if_neg h0] at h
  simp at h
set_option maxHeartbeats 800000 in
theorem zfH (rs:List Ru) (a:Option Addr) (c:Nat) {q:Option Nat} (w:World) (hv:zcy q w a rs) (hc:rs.length≤c) (hle:zbs Ru.le 1048576 rs) (ho:∀ x∈rs,zd0 x.exprs) :
  Calls Tryz.prog 46 #[.slice a rs.length c] w fun e w'=>e=.returned (.bool (decide ((chk rs).1=0)))∧Below w.heap.size w w':=by
 have HC:Hid (Calls Tryz.prog 81 #[.slice a rs.length c] w fun e w'=>e=.returned (ckV (chk rs))∧Below w.heap.size w w'):=zff a c rs q w hv hc hle ho
 unfold ckV at HC
 by_cases hp:(chk rs).1=0
 ·have hz:=zlF hp
  rw [hz] at HC ⊢
  go_enter Tryz.func46,Tryz.ntmps46
  go_wp2_with (go_at_call 81;with_reducible refine HC.out.mono ?_;rintro e w1 ⟨rfl,hb1⟩)
  go_ret
  exact ⟨rfl,hb1⟩
 ·generalize (chk rs).1=p0 at HC hp ⊢
  generalize (chk rs).2.1=p1 at HC
  generalize (chk rs).2.2=p2 at HC
  go_enter Tryz.func46,Tryz.ntmps46
  go_wp2_with (go_at_call 81;with_reducible refine HC.out.mono ?_;rintro e w1 ⟨rfl,hb1⟩)
  go_ret
  exact ⟨zac (by simp [hp]),hb1⟩
end Go.Proofs.YtmmdlgjmplddiaaGreat
namespace Go.Proofs.YtmmdlgjmplddiaaGreat
open Go.RowKit
attribute [local go_sem ↓] Go.wp_at_zero Go.wp_at_succ
theorem zd9 (fs:List F):∀ (ps:List Pt) (xs:List Pm) (n t b:Nat),(∀ x∈xs,x.tags.length≤t∧x.binds.length≤b)→(∀ p∈ps,p.terms.length≤6)→∀ y∈(allM ps fs xs n).1,y.tags.length≤t+ps.length∧y.binds.length≤b+6 * ps.length
 | [],xs,n,t,b,h,_,y,hy=>by
  simp only [allM] at hy
  simpa using h y hy
 | p :: ps,xs,n,t,b,h,h6,y,hy=>by
  simp only [allM] at hy
  have hp:=h6 p List.mem_cons_self
  have:=zd9 fs ps (zbg p fs xs) _ (t+1) (b+6) (fun x hx=>by have:=zfy h x hx;omega) (fun q hq=>h6 q (List.mem_cons_of_mem _ hq)) y hy
  rw [List.length_cons]
  omega
def ready (rs:List Ru) (fs:List F):Bool:=decide ((chk rs).1=0) && zaS fs
theorem zbE {rs:List Ru}{fs:List F} (h:ready rs fs=true):(chk rs).1=0∧zaS fs=true∧fs.length≤40:=by
 unfold ready at h
 simp at h
 refine ⟨h.1,h.2,?_⟩
 have h2:=h.2
 unfold zaS at h2
 simp at h2
 exact h2.1
theorem zcy.one {w:World}{k:Nat}{x:Ru}{a_p a_e a_a:Option Addr}{c_p c_e c_a:Nat} (h:w.heap[k]?=some (.cells #[.string x.name,.int .i64 x.sal,.slice a_p x.pats.length c_p,.slice a_e x.exprs.length c_e,.slice a_a x.acts.length c_a] 35 (0,0))) (h_p:zbY none w a_p x.pats) (h_e:za8 none w a_e x.exprs) (h_a:zcu none w a_a x.acts) (hc:x.exprs.length≤c_e):zcy none w (some ⟨k,0,none⟩) [x]:=by
 intro i y hi
 rcases i with _ | i
 ·simp at hi
  subst hi
  refine ⟨k,0,_,rfl,Qb.bare _ _ _,rfl,?_,a_p,c_p,a_e,c_e,a_a,c_a,rfl,h_p,h_e,h_a,hc⟩
  intro j v hj
  rcases j with _ | _ | _ | _ | _ | j
  all_goals simp at hj
  all_goals subst hj
  all_goals simp [World.cell?,h]
 ·simp at hi
set_option maxHeartbeats 1600000 in
theorem zid (rs:List Ru) (fs:List F) (a:Option Addr) (c:Nat) (fa:Option Addr) (fc:Nat) {q:Option Nat} (w:World) (hv:zcy q w a rs) (hc:rs.length≤c) (hle:zbs Ru.le 1048576 rs) (ho:∀ x∈rs,zd0 x.exprs) (hf:zaG w fa fs) (hl:fs.length≤1048576) (hs:∀ f∈fs,Sized f) :
  Calls Tryz.prog 27 #[.slice a rs.length c,.slice fa fs.length fc] w fun e w'=>e=.returned (.bool (ready rs fs))∧Below w.heap.size w w':=by
 have HC:=hidM (zfH rs a c w hv hc hle ho)
 have HF:=hidM hf
 have HS:=hidM hs
 clear hf hs hle ho hv
 by_cases hck:(chk rs).1=0
 ·have HR:=hidM (show ready rs fs=zaS fs by unfold ready;rw [decide_eq_true hck];simp)
  rw [decide_eq_true hck] at HC
  clear hck
  go_enter Tryz.func27,Tryz.ntmps27
  go_wp2_with fail
  refine HC.out.mono ?_
  rintro e w1 ⟨rfl,hb1⟩
  have HG:=hidM (zb3 fa fc fs w1 (HF.out.below hb1) hl HS.out)
  have B1:=hidM hb1
  clear HC hb1
  go_wp2_with fail
  refine HG.out.mono ?_
  rintro e w2 ⟨rfl,hb2⟩
  have B2:=hidM (B1.out.trans (hb2.mono B1.out.size))
  clear HG hb2
  go_wp2_with fail
  go_ret
  exact ⟨zac HR.out.symm,B2.out⟩
 ·have HR:=hidM (show ready rs fs=false by unfold ready;rw [decide_eq_false hck];simp)
  rw [decide_eq_false hck] at HC
  clear hck
  go_enter Tryz.func27,Tryz.ntmps27
  go_wp2_with fail
  refine HC.out.mono ?_
  rintro e w1 ⟨rfl,hb1⟩
  have B1:=hidM hb1
  clear HC hb1
  go_wp2_with fail
  go_ret
  exact ⟨zac HR.out.symm,B1.out⟩
set_option maxHeartbeats 1600000 in
theorem zfQ (a a':Option Addr) (c c':Nat) (xs ys:List Int) {q q':Option Nat} (w:World) (hv:zaU q w a xs) (hv':zaU q' w a' ys) (hl:xs.length≤1048576) :
  Calls Tryz.prog 29 #[.slice a xs.length c,.slice a' ys.length c'] w fun e w'=>e=.returned (.bool (decide (xs=ys)))∧Below w.heap.size w w':=by
 by_cases hll:xs.length=ys.length
 ·have t1:((xs.length:Int) != (ys.length:Int))=false:=by simp;omega
  have l1:xs.length≤ys.length:=by omega
  have l2:ys.length≤xs.length:=by omega
  clear hll
  go_enter Tryz.func29,Tryz.ntmps29
  go_wp2_with fail
  go_loopw [13] (fun i wr=>∃ (k:Nat),k≤xs.length∧i=.int .i64 k∧xs.take k=ys.take k∧Below w.heap.size w wr) (fun i _=>xs.length - (intOf i).toNat)
  case atStart=>exact ⟨0,by omega,rfl,rfl,Below.refl _ _⟩
  case round=>
   obtain ⟨k,hk,rfl,hG,hb⟩:=hrel
   have HG:=hidM hG
   clear hG
   by_cases hkl:k<xs.length
   ·obtain ⟨x,hx⟩:∃ x,xs[k]?=some x:=⟨xs[k],by simp [hkl]⟩
    obtain ⟨y,hy⟩:∃ y,ys[k]?=some y:=⟨ys[k]'(by omega),by simp⟩
    obtain ⟨b,o,rfl,_,c0⟩:=(zaU.below hv hb).get hx
    obtain ⟨b',o',rfl,_,d0⟩:=(zaU.below hv' hb).get hy
    have z0:(0:Int)≤(k:Int):=by omega
    have z1:(k:Int)<(xs.length:Int):=by omega
    have z2:(k:Int)<(ys.length:Int):=by omega
    by_cases h0:x=y
    ·have HT:=hidM (show xs.take (k+1)=ys.take (k+1) by rw [List.take_add_one,List.take_add_one,HG.out,hx,hy,h0])
     have e0:(x != y)=false:=by simpa using h0
     clear hx hy h0
     go_wp2_with fail
     go_region
     go_wp2_with fail
     go_roundw
     case rel=>exact ⟨k+1,by omega,by go_num,HT.out,hb.drew⟩
     case measure=>(simp [intOf];omega)
    ·have HT:=hidM (show decide (xs=ys)=false from decide_eq_false (fun e=>h0 (by rw [e,hy] at hx;injection hx with hx;exact hx.symm)))
     have e0:(x != y)=true:=by simpa using h0
     clear hx hy
     go_wp2_with fail
     go_region
     go_wp2_with fail
     go_ret
     exact ⟨zac HT.out.symm,hb.drew⟩
   ·have HT:=hidM (show decide (xs=ys)=true from decide_eq_true (by have:=HG.out;rwa [List.take_of_length_le (by omega),List.take_of_length_le (by omega)] at this))
    go_wp2_with fail
    go_ret
    exact ⟨zac HT.out.symm,hb⟩
 ·have t1:((xs.length:Int) != (ys.length:Int))=true:=by simp;omega
  go_enter Tryz.func29,Tryz.ntmps29
  go_wp2_with fail
  go_ret
  exact ⟨zac (by rw [decide_eq_false (fun e=>hll (by rw [e]))]),Below.refl _ _⟩
end Go.Proofs.YtmmdlgjmplddiaaGreat
namespace Go.Proofs.YtmmdlgjmplddiaaGreat
open Go.RowKit
attribute [local go_sem ↓] Go.wp_at_zero Go.wp_at_succ
def za3 (r:Ru) (fs:List F) (tags:List Int):Bool:=ready [r] fs && (allM r.pats fs [⟨[],[]⟩] 0).1.any (fun x=>decide (x.tags=tags))
theorem cells5M {w:World}{b:Nat}{ty:TypeId}{x0 x1 x2 x3 x4:Value} (h:w.heap[b]?=some (.cells #[x0,x1,x2,x3,x4] ty (0,0))):w.cell? ⟨b,0,none⟩=some x0∧w.cell? ⟨b,1,none⟩=some x1∧w.cell? ⟨b,2,none⟩=some x2∧w.cell? ⟨b,3,none⟩=some x3∧w.cell? ⟨b,4,none⟩=some x4:=by
 refine ⟨?_,?_,?_,?_,?_⟩ <;> simp [World.cell?,h]
set_option maxHeartbeats 3200000 in
theorem zel (r:Ru) (fs:List F) (tags:List Int) (a_p:Option Addr) (c_p:Nat) (a_e:Option Addr) (c_e:Nat) (a_a:Option Addr) (c_a:Nat) (fa:Option Addr) (fc:Nat) (ta:Option Addr) (tc:Nat) {q q':Option Nat} (w:World) (h_p:zbY q w a_p r.pats) (h_e:za8 q w a_e r.exprs) (h_a:zcu q w a_a r.acts) (hce:r.exprs.length≤c_e) (hle:zbs Ru.le 1048576 [r]) (ho:zd0 r.exprs) (h_f:zaG w fa fs) (hl:fs.length≤1048576) (hs:∀ f∈fs,Sized f) (h_t:zaU q' w ta tags) :
  Calls Tryz.prog 10 #[.agg #[.string r.name,.int .i64 r.sal,.slice a_p r.pats.length c_p,.slice a_e r.exprs.length c_e,.slice a_a r.acts.length c_a],.slice fa fs.length fc,.slice ta tags.length tc] w fun e w'=>e=.returned (.bool (za3 r fs tags))∧Below w.heap.size w w':=by
 have HP:=hidM h_p
 have HF:=hidM h_f
 have HTG:=hidM h_t
 have HR:=hidM (fun wt (hb:Below w.heap.size w wt) k (h:wt.heap[k]?=some (.cells #[.string r.name,.int .i64 r.sal,.slice a_p r.pats.length c_p,.slice a_e r.exprs.length c_e,.slice a_a r.acts.length c_a] 35 (0,0)))=>zid [r] fs (some ⟨k,0,none⟩) 1 fa fc wt (zcy.one h (h_p.below hb).bare (h_e.below hb).bare (h_a.below hb).bare hce) (Nat.le_refl _) hle (by intro x hx;simp at hx;subst hx;exact ho) (h_f.below hb) hl hs)
 clear h_p h_e h_a h_f hs hle ho h_t
 go_enter Tryz.func10,Tryz.ntmps10
 go_upto_region 1 with fail
 refine zaj ?_
 intro w0 hW0 hq0
 obtain ⟨b0,b1,b2,b3,b4⟩:=cells5M hq0
 have H0:=hidM hW0
 have HA:=hidM (fun o=>(Below.refl _ _).alloc (Nat.le_refl _) o:∀ o,Below w0.heap.size w0 (w0.alloc o))
 have HN:=hidM (heap_alloc_new w0)
 have hs0:=hW0.size
 clear hW0 hq0
 by_cases hrd:ready [r] fs=true
 ·have HT:=hidM (show za3 r fs tags=(allM r.pats fs [⟨[],[]⟩] 0).1.any (fun x=>decide (x.tags=tags)) by unfold za3;rw [hrd];rfl)
  obtain ⟨hck,hgf,hf40⟩:=zbE hrd
  obtain ⟨hp6,ht6,_⟩:=zdi hck (List.mem_singleton.2 rfl)
  have HT6:=hidM ht6
  rw [hrd] at HR
  have hall:=zgV fs hf40 r.pats [⟨[],[]⟩] 0
  have h416:41 ^ r.pats.length≤41 ^ 6:=Nat.pow_le_pow_right (by omega) hp6
  clear hck hgf ht6 hrd
  go_wp2_with fail
  refine (HR.out _ (H0.out.trans ((HA.out _).mono H0.out.size)) _ (HN.out _)).mono ?_
  rintro e w1 ⟨rfl,hb1⟩
  have B1:=hidM (Below.trans (HA.out _) (hb1.mono (HA.out _).size))
  have W1:=hidM (H0.out.trans (B1.out.mono H0.out.size))
  have d0:=zaa B1.out b0
  have d1:=zaa B1.out b1
  have d2:=zaa B1.out b2
  have d3:=zaa B1.out b3
  have d4:=zaa B1.out b4
  clear hb1 b0 b1 b2 b3 b4
  have HL:=hidM (zkH r fs a_p c_p a_e c_e a_a c_a fa fc w1 (HP.out.below W1.out) (HF.out.below W1.out) hp6 HT6.out hf40)
  go_wp2_with fail
  refine HL.out.mono ?_
  rintro e w2 ⟨⟨a,c,M,rfl,hM,hm⟩,hb2⟩
  have W2:=hidM (W1.out.trans (hb2.mono W1.out.size))
  have MM:=hidM hM
  have HML:=hidM (show M.length≤4750104241 by have:=congrArg List.length hm;simp at this hall h416;omega)
  have HTL:=hidM (show ∀ x∈M,x.1.tags.length≤1048576 by
   intro x hx
   have:=(zd9 fs r.pats [⟨[],[]⟩] 0 0 0 (by intro y hy;simp at hy;subst hy;simp) HT6.out x.1 (by rw [← hm];exact List.mem_map_of_mem hx)).1
   omega)
  rw [← hm] at HT
  clear hM hm hb2 HL d0 d1 d2 d3 d4 hall h416
  go_wp2_with fail
  go_loopw [24] (fun iv wr=>∃ (k:Nat),iv=.int .i64 (k:Int)∧k≤M.length∧(∀ x∈M.take k,x.1.tags≠tags)∧Below w2.heap.size w2 wr) (fun iv _=>M.length - (intOf iv).toNat)
  case atStart=>exact ⟨0,rfl,Nat.zero_le _,by simp,Below.refl _ _⟩
  case round=>
   obtain ⟨k,rfl,hkl,hno,hb⟩:=hrel
   have HNO:=hidM hno
   have BB:=hidM hb
   have BW:=hidM (W2.out.trans (hb.mono W2.out.size))
   have MR:=hidM (MM.out.bel hb)
   have hml:=HML.out
   clear hno hb
   by_cases hk:k<M.length
   ·obtain ⟨x,hx⟩:∃ x,M[k]?=some x:=⟨M[k],by simp [hk]⟩
    obtain ⟨⟨tg,bd⟩,tv,bv⟩:=x
    obtain ⟨lb,rfl,hlb,y0,y1⟩:=MR.out.get hx
    obtain ⟨⟨ta',tc',e1⟩,⟨ba,bc,e2⟩,hot,_⟩:=MR.out.all _ (List.mem_of_getElem? hx)
    simp only at e1 e2 hot y0 y1
    subst e1 e2
    have OT:=hidM (zaU.owns hot)
    have HYES:=hidM (fun (h:tg=tags)=>(show za3 r fs tags=true by rw [HT.out];exact List.any_eq_true.2 ⟨⟨tg,bd⟩,List.mem_map.2 ⟨_,List.mem_of_getElem? hx,rfl⟩,decide_eq_true h⟩))
    have HNXT:=hidM (fun (h:tg≠tags)=>(show ∀ x∈M.take (k+1),x.1.tags≠tags by intro x hx';rw [List.take_add_one,hx] at hx';rcases List.mem_append.1 hx' with h' | h';exact HNO.out x h';simp at h';subst h';exact h))
    have htl:tg.length≤1048576:=HTL.out _ (List.mem_of_getElem? hx)
    have z0:(0:Int)≤(k:Int):=by omega
    have z1:(k:Int)<(M.length:Int):=by omega
    clear hx hot HNO
    go_upto_region 7 with fail
    refine zaj ?_
    intro w4 hW4 hq4
    obtain ⟨f0,f1⟩:=cells2M hq4
    have B4:=hidM (BB.out.trans (hW4.mono BB.out.size))
    have W4:=hidM (BW.out.trans (hW4.mono BW.out.size))
    have HS:=hidM (zfQ ta' ta tc' tc tg tags w4 (OT.out.below hW4) (HTG.out.below W4.out) htl)
    clear hW4 hq4 y0 y1 OT BB BW MR
    by_cases ht:tg=tags
    ·rw [decide_eq_true ht] at HS
     replace HYES:=hidM (HYES.out ht)
     clear ht HNXT
     go_wp2_with fail
     refine HS.out.mono ?_
     rintro e w5 ⟨rfl,hb5⟩
     have W5:=hidM (W4.out.trans (hb5.mono W4.out.size))
     clear hb5 HS
     go_wp2_with fail
     go_ret
     exact ⟨zac HYES.out.symm,W5.out⟩
    ·rw [decide_eq_false ht] at HS
     replace HNXT:=hidM (HNXT.out ht)
     clear ht HYES
     go_wp2_with fail
     refine HS.out.mono ?_
     rintro e w5 ⟨rfl,hb5⟩
     have B5:=hidM (B4.out.trans (hb5.mono B4.out.size))
     clear hb5 HS
     go_wp2_with fail
     go_roundw
     case rel=>exact ⟨k+1,by go_num,by omega,HNXT.out,B5.out⟩
     case measure=>(simp [intOf];omega)
   ·have hke:k=M.length:=by omega
    subst hke
    have hy:¬ (M.length:Int)<(M.length:Int):=by omega
    have HNN:=hidM (show za3 r fs tags=false by rw [HT.out];have:=HNO.out;rw [List.take_length] at this;simpa using fun a b c (h:(a,b,c)∈M)=>this (a,b,c) h)
    go_wp2_with fail
    go_ret
    exact ⟨zac HNN.out.symm,BW.out⟩
 ·have HT:=hidM (show za3 r fs tags=false by unfold za3;rw [show ready [r] fs=false by simpa using hrd];rfl)
  rw [show ready [r] fs=false by simpa using hrd] at HR
  clear hrd
  go_wp2_with fail
  refine (HR.out _ (H0.out.trans ((HA.out _).mono H0.out.size)) _ (HN.out _)).mono ?_
  rintro e w1 ⟨rfl,hb1⟩
  have B1:=hidM (Below.trans (HA.out _) (hb1.mono (HA.out _).size))
  have W1:=hidM (H0.out.trans (B1.out.mono H0.out.size))
  clear hb1
  go_wp2_with fail
  go_ret
  exact ⟨zac HT.out.symm,W1.out⟩
end Go.Proofs.YtmmdlgjmplddiaaGreat
namespace Go.Proofs.YtmmdlgjmplddiaaGreat
theorem zeO {ps:List Pt}{fs:List F}{tags:List Int} (hk:KnR ps [] 0):((allM ps fs [⟨[],[]⟩] 0).1.any (fun x=>decide (x.tags=tags))=true) ↔ ∃ U∈exts (zax ps [] 0) fs [],U.map (·.tag)=tags:=by
 have h:=zgt fs ps [] [] 0 hk rfl (fun x hx=>by simp at hx)
 have h':(allM ps fs [⟨[],[]⟩] 0).1.map (·.tags)=(exts (zax ps [] 0) fs []).map (fun U=>U.map (·.tag)):=h
 rw [List.any_eq_true]
 constructor
 ·rintro ⟨x,hx,hd⟩
  have hm:x.tags∈(allM ps fs [⟨[],[]⟩] 0).1.map (·.tags):=List.mem_map.2 ⟨x,hx,rfl⟩
  rw [h'] at hm
  obtain ⟨U,hU,he⟩:=List.mem_map.1 hm
  exact ⟨U,hU,he.trans (of_decide_eq_true hd)⟩
 ·rintro ⟨U,hU,he⟩
  have hm:U.map (·.tag)∈(exts (zax ps [] 0) fs []).map (fun U=>U.map (·.tag)):=List.mem_map.2 ⟨U,hU,rfl⟩
  rw [← h'] at hm
  obtain ⟨x,hx,hx2⟩:=List.mem_map.1 hm
  exact ⟨x,hx,decide_eq_true (hx2.trans he)⟩
theorem zeM {ps:List Pt}{fs:List F}{U:List F}:U∈exts (zax ps [] 0) fs [] ↔ (U.length=positives ps∧(∀ f∈U,f∈fs)∧(zax ps [] 0).all (okP fs U)=true):=zgP fs ps [] [] U (fun x hx=>by simp at hx)
theorem zdB {fs:List F} (hd:∀ f∈fs,∀ g∈fs,f.tag=g.tag→f=g):∀ (U W:List F),(∀ f∈U,f∈fs)→(∀ f∈W,f∈fs)→U.map (·.tag)=W.map (·.tag)→U=W
 | [],[],_,_,_=>rfl
 | [],_ :: _,_,_,h=>by simp at h
 | _ :: _,[],_,_,h=>by simp at h
 | a :: U,b :: W,hU,hW,h=>by
  simp only [List.map_cons,List.cons.injEq] at h
  rw [hd a (hU a List.mem_cons_self) b (hW b List.mem_cons_self) h.1,zdB hd U W (fun f hf=>hU f (List.mem_cons_of_mem _ hf)) (fun f hf=>hW f (List.mem_cons_of_mem _ hf)) h.2]
theorem ziz {r:Ru}{fs W:List F} (hr:ready [r] fs=true) (hd:∀ f∈fs,∀ g∈fs,f.tag=g.tag→f=g) (hW:∀ f∈W,f∈fs) (hlen:W.length=positives r.pats):za3 r fs (W.map (·.tag))=(zax r.pats [] 0).all (okP fs W):=by
 have hk:KnR r.pats [] 0:=zcT (zbE hr).1 (List.mem_singleton.2 rfl)
 unfold za3
 rw [hr,Bool.true_and]
 have h1:=zeO (fs:=fs) (tags:=W.map (·.tag)) hk
 cases ho:(zax r.pats [] 0).all (okP fs W)
 ·cases ha:(allM r.pats fs [⟨[],[]⟩] 0).1.any (fun x=>decide (x.tags=W.map (·.tag)))
  ·rfl
  ·obtain ⟨U,hU,he⟩:=h1.1 ha
   obtain ⟨u1,u2,u3⟩:=zeM.1 hU
   rw [zdB hd U W u2 hW he,ho] at u3
   cases u3
 ·exact h1.2 ⟨W,zeM.2 ⟨hlen,hW,ho⟩,rfl⟩
theorem zg2 {r:Ru}{fs:List F}{tags:List Int} (hlen:tags.length≠positives r.pats):za3 r fs tags=false:=by
 unfold za3
 cases hr:ready [r] fs
 ·rfl
 ·rw [Bool.true_and]
  have hk:KnR r.pats [] 0:=zcT (zbE hr).1 (List.mem_singleton.2 rfl)
  cases ha:(allM r.pats fs [⟨[],[]⟩] 0).1.any (fun x=>decide (x.tags=tags))
  ·rfl
  ·obtain ⟨U,hU,he⟩:=(zeO hk).1 ha
   obtain ⟨u1,_,_⟩:=zeM.1 hU
   exact absurd (by rw [← he,List.length_map,u1]) hlen
theorem zjs {r:Ru}{fs:List F}{tags:List Int}{t:Int} (ht:t∈tags) (hno:∀ f∈fs,f.tag≠t):za3 r fs tags=false:=by
 unfold za3
 cases hr:ready [r] fs
 ·rfl
 ·rw [Bool.true_and]
  have hk:KnR r.pats [] 0:=zcT (zbE hr).1 (List.mem_singleton.2 rfl)
  cases ha:(allM r.pats fs [⟨[],[]⟩] 0).1.any (fun x=>decide (x.tags=tags))
  ·rfl
  ·obtain ⟨U,hU,he⟩:=(zeO hk).1 ha
   obtain ⟨_,u2,_⟩:=zeM.1 hU
   rw [← he] at ht
   obtain ⟨f,hf,hf2⟩:=List.mem_map.1 ht
   exact absurd hf2 (hno f (u2 f hf))
end Go.Proofs.YtmmdlgjmplddiaaGreat
namespace Go.Proofs.YtmmdlgjmplddiaaGreat
theorem zmw {vs:List Vr}{ts:List Tm}:∀ k,∀ t∈zat vs ts k,t.slot<k∧∃ v∈vs,t.fact=v.fact∧t.at_=v.slot
 | 0,t,ht=>by simp [zat] at ht
 | k+1,t,ht=>by
  simp only [zat,List.mem_append] at ht
  rcases ht with ht | ht
  ·obtain ⟨h1,h2⟩:=zmw k t ht
   exact ⟨by omega,h2⟩
  ·cases hk:ts[k]? with
   | none=>rw [hk] at ht;simp at ht
   | some u=>
    rw [hk] at ht
    simp only [jtOf] at ht
    cases hl:zaV vs u.var with
    | none=>rw [hl] at ht;simp at ht
    | some v=>
     rw [hl] at ht
     simp only at ht
     have hv:v∈vs:=zfz hl
     cases he:earlier ts k u.var with
     | some j=>rw [he] at ht;simp at ht
     | none=>
      rw [he] at ht
      simp at ht
      subst ht
      exact ⟨by simp,v,hv,rfl,rfl⟩
theorem zdm {p:Pt}{f:F} (hg:gPt p=true) (h:passes (zaB p) f=true):f.slots.length=p.terms.length:=by
 rw [show zaB p=⟨p.cls,(p.terms.length:Int),zag p.terms p.terms.length⟩ from if_pos hg] at h
 unfold passes at h
 simp only [Bool.and_eq_true,decide_eq_true_eq] at h
 omega
def VIn (U:List F) (vs:List Vr):Prop:=∀ v∈vs,∃ g,U[v.fact]?=some g∧v.slot<g.slots.length
theorem zgp {U:List F}{vs:List Vr}{ts:List Tm}{n:Nat}{g:F} (h:VIn U vs) (hg:U[n]?=some g) (hl:g.slots.length=ts.length):∀ i,i≤ts.length→VIn U (zao vs ts n i)
 | 0,_=>h
 | i+1,hi=>by
  intro v hv
  obtain ⟨t,ht⟩:∃ t,ts[i]?=some t:=⟨ts[i],by simp⟩
  rw [zct ht] at hv
  split at hv
  ·rcases List.mem_append.1 hv with hv | hv
   ·exact zgp h hg hl i (by omega) v hv
   ·simp at hv
    subst hv
    exact ⟨g,hg,by simp only;omega⟩
  ·exact zgp h hg hl i (by omega) v hv
theorem zft {U:List F}{vs:List Vr}{p:Pt}{f:F} (h:VIn U vs) (hg:gPt p=true) (hp:passes (zaB p) f=true):∀ t∈zat vs p.terms p.terms.length,t.fits U f:=by
 intro t ht
 obtain ⟨h1,v,hv,e1,e2⟩:=zmw _ t ht
 obtain ⟨g,hg1,hg2⟩:=h v hv
 exact ⟨by rw [zdm hg hp];exact h1,g,by rw [e1];exact hg1,by rw [e2];exact hg2⟩
def fitP (fs U:List F) (c:Cp):Prop:=(c.neg=true→∀ f∈fs,passes c.alpha f=true→∀ t∈c.tests,t.fits U f)∧(c.neg=false→∃ f,U[c.at_]?=some f∧(passes c.alpha f=true→∀ t∈c.tests,t.fits U f))
theorem zgJ (fs U:List F):∀ (ps:List Pt) (vs:List Vr) (n:Nat),KnR ps vs n→VIn U vs→n+positives ps≤U.length→∀ k c,(zax ps vs n)[k]?=some c→(∀ c'∈(zax ps vs n).take k,okP fs U c'=true)→fitP fs U c
 | [],_,_,_,_,_,k,c,hc,_=>by simp [zax] at hc
 | p :: ps,vs,n,hk,hV,hn,k,c,hc,hok=>by
  obtain ⟨hg,_,hrest⟩:=hk
  simp only [zax] at hc hok
  rcases k with _ | k
  ·simp at hc
   subst hc
   refine ⟨fun _ f _ hp=>zft hV hg hp,fun hneg=>?_⟩
   have hneg':p.neg=false:=hneg
   have hpos:positives (p :: ps)=positives ps+1:=by simp [positives,pos1,hneg']
   obtain ⟨f,hf⟩:∃ f,U[n]?=some f:=⟨U[n],by simp⟩
   exact ⟨f,hf,fun hp=>zft hV hg hp⟩
  ·simp only [List.getElem?_cons_succ] at hc
   simp only [List.take_succ_cons,List.mem_cons] at hok
   have h0:=hok _ (.inl rfl)
   by_cases hneg:p.neg=true
   ·rw [if_pos hneg] at hc hrest
    have hpos:positives (p :: ps)=positives ps:=by simp [positives,pos1,hneg]
    exact zgJ fs U ps vs n hrest hV (by omega) k c hc (fun c' hc'=>hok c' (.inr (by rw [if_pos hneg];exact hc')))
   ·rw [if_neg hneg] at hc hrest
    have hpos:positives (p :: ps)=positives ps+1:=by simp [positives,pos1,hneg]
    obtain ⟨f,hf⟩:∃ f,U[n]?=some f:=⟨U[n],by simp⟩
    have hp:passes (zaB p) f=true:=by
     unfold okP at h0
     rw [if_neg hneg] at h0
     simp only [hf,lets,Bool.and_eq_true] at h0
     exact h0.1
    exact zgJ fs U ps _ (n+1) hrest (zgp hV hf (zdm hg hp) _ (Nat.le_refl _)) (by omega) k c hc (fun c' hc'=>hok c' (.inr (by rw [if_neg hneg];exact hc')))
end Go.Proofs.YtmmdlgjmplddiaaGreat
namespace Go.Proofs.YtmmdlgjmplddiaaGreat
theorem zm9 {last:Int}{f:F} (h:okF last f=true):last<f.tag:=by
 unfold okF at h
 simp only [Bool.and_eq_true,decide_eq_true_eq] at h
 omega
theorem zgy:∀ {fs:List F}{last:Int},zbm last fs=true→∀ f∈fs,last<f.tag
 | [],_,_,f,hf=>by simp at hf
 | g :: r,last,h,f,hf=>by
  simp only [zbm,Bool.and_eq_true] at h
  have h1:=zm9 h.1
  rcases List.mem_cons.1 hf with rfl | hf
  ·exact h1
  ·have:=zgy h.2 f hf
   omega
theorem ze9:∀ {fs:List F}{last:Int},zbm last fs=true→∀ f∈fs,∀ g∈fs,f.tag=g.tag→f=g
 | [],_,_,f,hf,_,_,_=>by simp at hf
 | x :: r,last,h,f,hf,g,hg,he=>by
  simp only [zbm,Bool.and_eq_true] at h
  rcases List.mem_cons.1 hf with e1 | hf'
  ·rcases List.mem_cons.1 hg with e2 | hg'
   ·rw [e1,e2]
   ·have:=zgy h.2 g hg'
    rw [e1] at he
    omega
  ·rcases List.mem_cons.1 hg with e2 | hg'
   ·have:=zgy h.2 f hf'
    rw [e2] at he
    omega
   ·exact ze9 h.2 f hf' g hg' he
def CnCp (fs:List F) (c:Cn) (d:Cp):Prop:=c.neg=d.neg∧c.at_=d.at_∧c.tests=d.tests∧c.alpha=d.alpha∧c.facts=fs.filter (passes d.alpha)
theorem zc8 {α:Type}{p q:α→Bool}:∀ l:List α,(l.filter p).any q=l.any (fun x=>p x && q x)
 | []=>rfl
 | x :: r=>by
  by_cases h:p x=true
  ·rw [List.filter_cons_of_pos h,List.any_cons,List.any_cons,zc8 r,h];rfl
  ·rw [List.filter_cons_of_neg h,List.any_cons,zc8 r,show p x=false by simpa using h];rfl
theorem zk1 {fs U:List F}{c:Cn}{d:Cp} (h:CnCp fs c d):okC U c=okP fs U d:=by
 obtain ⟨h1,h2,h3,h4,h5⟩:=h
 unfold okC okP
 rw [h1,h2,h3,h4,h5,zc8]
 rfl
theorem znn {fs U:List F}{c:Cn}{d:Cp} (h:CnCp fs c d) (hf:fitP fs U d):fitC U c:=by
 obtain ⟨h1,h2,h3,h4,h5⟩:=h
 refine ⟨fun hn f hff t ht=>?_,fun hn=>?_⟩
 ·rw [h5] at hff
  obtain ⟨m1,m2⟩:=List.mem_filter.1 hff
  rw [h3] at ht
  exact hf.1 (by rw [← h1];exact hn) f m1 m2 t ht
 ·obtain ⟨f,e1,e2⟩:=hf.2 (by rw [← h1];exact hn)
  exact ⟨f,by rw [h2];exact e1,fun hp t ht=>e2 (by rw [← h4];exact hp) t (by rw [← h3];exact ht)⟩
end Go.Proofs.YtmmdlgjmplddiaaGreat
namespace Go.Proofs.YtmmdlgjmplddiaaGreat
open Go.RowKit
structure It where
 rule:Int
 tags:List Int
abbrev ItX:=It × Value
def zbT (x:ItX):List Value:=[.int .i64 x.1.rule,x.2]
structure ItP (w:World) (base:Nat) (x:ItX):Prop where
 ts:∃ a c,x.2=.slice a x.1.tags.length c
 ot:w.ownsRow base 3 1 x.2 x.1.tags.length (icells x.1.tags)
structure Iw (w:World) (b1 base:Nat) (a:Option Addr) (c:Nat) (L:List ItX):Prop where
 row:w.ownsRow b1 46 2 (.slice a L.length c) L.length (L.flatMap zbT)
 all:∀ x∈L,ItP w base x
theorem Iw.nil (w:World) (b1 base:Nat):Iw w b1 base none 0 []:=⟨World.ownsRow_nil _ _ _ _,fun x hx=>by simp at hx⟩
theorem ItP.bel {w w':World}{base:Nat}{x:ItX} (h:ItP w base x) (hb:Below w.heap.size w w'):ItP w' base x:=⟨h.ts,zai h.ot hb⟩
theorem ItP.lower {w:World}{base base':Nat}{x:ItX} (h:ItP w base x) (hb:base'≤base):ItP w base' x:=⟨h.ts,zar h.ot hb⟩
theorem Iw.bel {w w':World}{b1 base:Nat}{a:Option Addr}{c:Nat}{L:List ItX} (h:Iw w b1 base a c L) (hb:Below w.heap.size w w'):Iw w' b1 base a c L:=⟨zai h.row hb,fun x hx=>(h.all x hx).bel hb⟩
theorem Iw.lower {w:World}{b1 base b1' base':Nat}{a:Option Addr}{c:Nat}{L:List ItX} (h:Iw w b1 base a c L) (h1:b1'≤b1) (h2:base'≤base):Iw w b1' base' a c L:=⟨zar h.row h1,fun x hx=>(h.all x hx).lower h2⟩
theorem ItP.grown {w w':World}{base:Nat}{t:TypeId}{x:ItX}{row:Option Nat} (h:ItP w base x) (hg:w.grownBy w' row) (ht:∀ k,row=some k→∃ c,w.heap[k]?=some (.cells c t (0,0))) (h1:t≠3):ItP w' base x:=⟨h.ts,zby h.ot hg ht h1⟩
theorem Iw.snoc {w w':World}{b1 base:Nat}{a a':Option Addr}{c c':Nat}{L:List ItX}{x:ItX} (h:Iw w b1 base a c L) (hx:ItP w base x) (ho:w'.ownsRow b1 46 2 (.slice a' (L.length+1) c') (L.length+1) (L.flatMap zbT ++ zbT x)) (hg:w.grownBy w' (Value.slice a L.length c).ownBlock):Iw w' b1 base a' c' (L ++ [x]):=by
 refine ⟨by simpa using ho,fun y hy=>?_⟩
 have hy':ItP w base y:=by
  rcases List.mem_append.1 hy with hy | hy
  ·exact h.all y hy
  ·simp at hy
   subst hy
   exact hx
 exact hy'.grown hg (fun k hk=>zah h.row hk) (by decide)
theorem Iw.get {w:World}{b1 base:Nat}{a:Option Addr}{c:Nat}{L:List ItX} (h:Iw w b1 base a c L) {i:Nat}{x:ItX} (hi:L[i]?=some x) :
  ∃ k,a=some ⟨k,0,none⟩∧b1≤k∧k<w.heap.size∧w.cell? ⟨k,i * 2,none⟩=some (.int .i64 x.1.rule)∧w.cell? ⟨k,i * 2+1,none⟩=some x.2∧w.frozen? ⟨k,i * 2,none⟩=false:=by
 have key:=fun j u (hj:(zbT x)[j]?=some u)=>zam h.row (zbe (cells:=zbT) (m:=2) (fun _=>rfl) L i x j u hi hj)
 obtain ⟨k,rfl,hk,h0,f0⟩:=key 0 _ rfl
 obtain ⟨k1,e1,_,h1,_⟩:=key 1 _ rfl
 cases e1
 exact ⟨k,rfl,hk,World.block_lt_of_cell? w ⟨k,_,none⟩ h0,h0,h1,f0⟩
theorem zie:(Tryz.prog.info? 46).map (fun i=>(i.zero,i.size,i.bytes))=some (some (.agg #[.int .i64 0,.slice none 0 0]),2,32):=by kernel_rfl
def zkC (w:World) (a:Option Addr) (L:List It):Prop:=
 ∀ (i:Nat) (x:It),L[i]?=some x→∃ b o a' c',a=some ⟨b,o,none⟩∧w.cell? ⟨b,o+i * 2,none⟩=some (.int .i64 x.rule)∧w.cell? ⟨b,o+i * 2+1,none⟩=some (.slice a' x.tags.length c')∧zaU none w a' x.tags
theorem zkC.below {w w':World}{a:Option Addr}{L:List It} (h:zkC w a L) (hb:Below w.heap.size w w'):zkC w' a L:=by
 intro i x hx
 obtain ⟨b,o,a',c',e,h0,h1,hi⟩:=h i x hx
 exact ⟨b,o,a',c',e,zaa hb h0,zaa hb h1,hi.below hb⟩
theorem Iw.at {w:World}{b1 base:Nat}{a:Option Addr}{c:Nat}{M:List ItX} (h:Iw w b1 base a c M):zkC w a (M.map Prod.fst):=by
 intro i x hx
 rw [List.getElem?_map] at hx
 obtain ⟨y,hy,rfl⟩:=Option.map_eq_some_iff.1 hx
 obtain ⟨k,rfl,_,_,h0,h1,_⟩:=h.get hy
 obtain ⟨⟨a',c',e⟩,ho⟩:=h.all y (List.mem_of_getElem? hy)
 rw [e] at h1 ho
 exact ⟨k,0,a',c',rfl,by simpa using h0,by simpa using h1,zaU.owns ho⟩
def InIt (v:Value) (M:List ItX) (g:Nat):Prop:=v.ownBlock=some g∨∃ x∈M,x.2.ownBlock=some g
theorem Iw.range {w:World}{base:Nat}{a:Option Addr}{c:Nat}{M:List ItX} (h:Iw w base base a c M) {g:Nat} (hg:InIt (.slice a M.length c) M g):base≤g∧g<w.heap.size:=by
 rcases hg with hg | ⟨x,hx,hg⟩
 ·exact h.row.lt g hg
 ·exact (h.all x hx).ot.lt g hg
theorem Iw.kept {w w':World}{b1 base:Nat}{a:Option Addr}{c:Nat}{M:List ItX} (h:Iw w b1 base a c M) (hb:∀ g,InIt (.slice a M.length c) M g→w'.heap[g]?=w.heap[g]?):Iw w' b1 base a c M:=
 ⟨zaf h.row (fun g hg=>hb g (.inl hg)),fun x hx=>⟨(h.all x hx).ts,zaf (h.all x hx).ot (fun g hg=>hb g (.inr ⟨x,hx,hg⟩))⟩⟩
end Go.Proofs.YtmmdlgjmplddiaaGreat
namespace Go.Proofs.YtmmdlgjmplddiaaGreat
open Go.RowKit Go.Maps
attribute [local go_sem ↓] Go.wp_at_zero Go.wp_at_succ
def znV (kl:Al→Lit) (base gb mb:Nat) (la:Option Addr) (lc:Nat) (L:List AlX) (bs:List Nat) (p:Pt) (w:World) (e:Ending) (w':World):Prop:=
 ∃ la' lc' L' bs' D' b,e=.returned (.pointer (some ⟨b,0,none⟩))∧NS kl w' base gb mb la' lc' L' bs' D'∧L'.map Prod.fst=addA (L.map Prod.fst) (zaB p)∧bs'[zbR (zaB p) (L.map Prod.fst)]?=some b∧Fr3 gb mb (Value.slice la L.length lc).ownBlock w w'∧(∀ (i n:Nat),bs[i]?=some n→bs'[i]?=some n)∧(∀ g,(Value.slice la' L'.length lc').ownBlock=some g→(Value.slice la L.length lc).ownBlock=some g∨w.heap.size≤g)
theorem Fr3.trans_below {gb mb:Nat}{row:Option Nat}{u v w:World} (h:Below u.heap.size u v) (k:Fr3 gb mb row v w):Fr3 gb mb row u w:=⟨(h.mono (Nat.zero_le _)).trans k.rest,fun j hj h1 h2 h3=>(k.block j (Nat.lt_of_lt_of_le hj h.size) h1 h2 h3).trans (h.block j hj)⟩
theorem zlU {P:World→Prop}{w0 u:World}{o:Obj} (hu:Below w0.heap.size w0 u) (hq:u.heap[w0.heap.size]?=some o) (h:∀ wt,Below w0.heap.size w0 wt→wt.heap[w0.heap.size]?=some o→P wt):P u:=h u hu hq
set_option maxRecDepth 100000 in
set_option maxHeartbeats 6400000 in
theorem znI (kl:Al→Lit) (K:KLA kl) (p:Pt) (a_t:Option Addr) (c_t:Nat) {q:Option Nat} (base gb mb:Nat) (la:Option Addr) (lc:Nat) (L:List AlX) (bs:List Nat) (D:DataW Unit) (w:World) (hN:NS kl w base gb mb la lc L bs D) (h_t:zch q w a_t p.terms) (hcl:p.cls.size≤maxLen) (hts:zbs Tm.le maxLen p.terms) (htl:p.terms.length≤1048576) (hcp:p.terms.length≤c_t) (hvo:∀ t∈p.terms,VOk t.val) (hL:L.length≤1000) (hbase:base≤w.heap.size) :
  Calls Tryz.prog 32 #[.pointer (some ⟨gb,0,none⟩),.agg #[.bool p.neg,.string p.cls,.slice a_t p.terms.length c_t]] w (znV kl base gb mb la lc L bs p w):=by
 have HN:=zbr hN
 have HT:=zbr h_t
 have HTS:=zbr hts
 have HX:=zbr (zj1 hcl hvo)
 have HA:=zbr (fun o=>(Below.refl _ _).alloc (Nat.le_refl _) o:∀ o,Below w.heap.size w (w.alloc o))
 have hu1:=Tryz.underlying153
 clear hN h_t hts hvo
 go_enter Tryz.func32,Tryz.ntmps32
 go_wp2_with fail
 refine (zhv p a_t c_t _ (HT.out.below (HA.out _)) hcl HTS.out htl hcp).mono ?_
 rintro e w1 ⟨⟨a1,c1,rfl,ho1⟩,hb1⟩
 have N1:=zbr ((HN.out.bel (HA.out _)).bel hb1)
 have B1:=zbr ((HA.out _).trans (hb1.mono (HA.out _).size))
 have hs1:=hb1.size
 simp at hs1
 have XO1:=zbr (zar ho1 (show w.heap.size≤_ by simp))
 obtain ⟨X,hX⟩:∃ X,X=zaB p:=⟨_,rfl⟩
 have hX6:X.tests.length≤6:=by rw [hX];exact zc0 p
 rw [← hX] at XO1 HX ⊢
 have HXE:=zbr hX
 clear hX ho1 hb1 HA HT HTS
 go_upto_region 2 with fail
 refine zaj ?_
 intro w2 hW2 hq2
 obtain ⟨g0,g1,g2⟩:=cells3N hq2
 have N2:=zbr (N1.out.bel hW2)
 have B2:=zbr (B1.out.trans (hW2.mono B1.out.size))
 have XO2:=zbr (zai XO1.out hW2)
 have hs2:=hW2.size
 have hl2:w1.heap.size<w2.heap.size:=zab hq2
 clear hW2 hq2 N1 B1 XO1
 go_wp2_with fail
 refine (zlP X a1 c1 w2 (zcE.owns XO2.out) hX6).mono ?_
 rintro e w3 ⟨rfl,hb3⟩
 have hlk:(keyA X).length=38:=by unfold keyA;rw [zcV,zdQ _ hX6]
 have HLK:=zbr hlk
 have g0':=zaa hb3 g0
 have g1':=zaa hb3 g1
 have g2':=zaa hb3 g2
 have N3:=zbr (N2.out.bel hb3)
 have B3:=zbr (B2.out.trans (hb3.mono B2.out.size))
 have XO3:=zbr (zai XO2.out hb3)
 have hs3:=hb3.size
 clear hlk g0 g1 g2 hb3 N2 B2 XO2
 go_upto_region 3 with (refine zak (by rfl) 153 (.tmp 6) (.tmp 12) (by rfl) w3.heap.size (keyA X) (by rfl) (by rfl) _ 153 (zeL _ _ _ rfl) (by rw [HLK.out];rfl) (by rw [HLK.out];exact zfV) (zee _ _ _) ?_;intro w4 hk4 ht4)
 have hB34:Below w3.heap.size w3 w4:=((Below.refl _ _).alloc (Nat.le_refl _) _).trans (ht4.out.below (Nat.le_refl _))
 have G0:=zaa hB34 g0'
 have G1:=zaa hB34 g1'
 have G2:=zaa hB34 g2'
 have N4:=zbr (N3.out.bel hB34)
 have B4:=zbr (B3.out.trans (hB34.mono B3.out.size))
 have XO4:=zbr (zai XO3.out hB34)
 have hs4:=hB34.size
 have RK:=zbr (zdp hk4.out)
 have hkb4:w3.heap.size<w4.heap.size:=zab hk4.out
 have hinf:(Tryz.prog.info? 153).map (·.size)=some (keyA X).length:=by rw [HLK.out];exact zfV
 obtain ⟨⟨m0,m1⟩,_,hgl⟩:=N4.out.box.facts
 obtain ⟨v,ps,hrun,hv⟩:=(N4.out.map.drew).look_ok zmp (t:=102) Tryz.underlying102 (zm2 _) (show ptrR (.pointer none)=some (zP,[]) from rfl) (K X HX.out)
 have hAL:(L.map Prod.fst).length=L.length:=by simp
 clear g0' g1' g2' hB34 N3 B3 XO3 ht4 hk4
 by_cases hin:zbR X (L.map Prod.fst)<(L.map Prod.fst).length
 ·obtain ⟨b,hb⟩:∃ b,bs[zbR X (L.map Prod.fst)]?=some b:=⟨bs[zbR X (L.map Prod.fst)]'(by rw [N4.out.inv.len];exact hin),by simp⟩
  obtain ⟨hy1,hy2⟩:=N4.out.inv.yes X b HX.out hb
  rw [hy1] at hrun
  rw [hy2] at hv
  have hvp:=zl0 hv
  subst hvp
  have HB:=zbr hb
  have HIN:=zbr hin
  clear hv hy1 hy2 hb hin
  refine wp_region_noPanic ?_
  refine wp_region_held_drew (S:=(fun w'=>w'.cell? ⟨gb,0,none⟩=some (.map (some mb))∧w'.rangeAt w3.heap.size 0 (keyA X))) (by kernel_rfl) ?_ (fun hHeld=>?_)
  ·(try dsimp only)
   exact ⟨m0,RK.out⟩
  refine tk 0 hHeld ?_
  (try simp only [Act.put,List.setIfInBounds_toArray,List.set_cons_zero,List.set_cons_succ])
  refine tk 1 hHeld ?_
  (try simp only [Act.put,List.setIfInBounds_toArray,List.set_cons_zero,List.set_cons_succ])
  refine tk 2 hHeld ?_
  (try simp only [Act.put,List.setIfInBounds_toArray,List.set_cons_zero,List.set_cons_succ])
  refine tk 3 hHeld ?_
  (try simp only [Act.put,List.setIfInBounds_toArray,List.set_cons_zero,List.set_cons_succ])
  refine wpAnyH_take (i:=4) (oi:=?oi1) (v:=?v1) ?hi1 (by kernel_rfl) (by kernel_rfl) (by kernel_rfl) (fun _ _ _ h=>h) ?yl1 hHeld ?rest1
  case hi1=>(simp only [List.getElem?_toArray,List.getElem?_cons_succ,List.getElem?_cons_zero];rfl)
  case yl1=>
   refine' yieldsIf_load_mid (by rfl) _ _ rfl _ _ rfl _ _ ?hS ?hu ?hd ?hj
   case hS=>(intro w hSw;exact hSw.2)
   case hu=>exact hu1
   case hd=>rfl
   case hj=>exact hinf
  (try simp only [Act.put,List.setIfInBounds_toArray,List.set_cons_zero,List.set_cons_succ])
  refine wpAnyH_ready (rs:=[5]) (by kernel_rfl) (by simp) ?_
  refine AllReadyH.cons (o:=?o2) ?ho2 (fun K hK=>?step2) AllReadyH.nil
  case ho2=>(simp only [List.getElem?_toArray,List.getElem?_cons_succ,List.getElem?_cons_zero];rfl)
  go_simp
  refine hK.out _ _ ?hS2 (fun hHeld'=>?rest2)
  case hS2=>((try dsimp only);exact ⟨m0,RK.out⟩)
  clear hK K
  (try simp only [Act.put,List.setIfInBounds_toArray,List.set_cons_zero,List.set_cons_succ])
  clear hHeld
  have hHeld:=hHeld'
  clear hHeld'
  refine tk 6 hHeld ?_
  (try simp only [Act.put,List.setIfInBounds_toArray,List.set_cons_zero,List.set_cons_succ])
  refine tk 7 hHeld ?_
  (try simp only [Act.put,List.setIfInBounds_toArray,List.set_cons_zero,List.set_cons_succ])
  refine tk 8 hHeld ?_
  (try simp only [Act.put,List.setIfInBounds_toArray,List.set_cons_zero,List.set_cons_succ])
  refine tk 9 hHeld ?_
  (try simp only [Act.put,List.setIfInBounds_toArray,List.set_cons_zero,List.set_cons_succ])
  refine tk 10 hHeld ?_
  (try simp only [Act.put,List.setIfInBounds_toArray,List.set_cons_zero,List.set_cons_succ])
  refine wpAnyH_done (by kernel_rfl) ?_ _
  refine NoPanic.normal ?_
  go_wp2_with fail
  go_ret
  exact ⟨la,lc,L,bs,D,b,rfl,N4.out.bel (Below.refl _ _).drew,by rw [← HXE.out,ziP HIN.out],by rw [← HXE.out];exact HB.out,Fr3.of_below (B4.out.trans (Below.refl _ _).drew),fun _ _ h=>h,fun _ h=>.inl h⟩
 ·have hno:=N4.out.inv.no X HX.out hin
  rw [hno] at hrun
  have HIN:=zbr hin
  clear hv hno hin
  refine wp_region_noPanic ?_
  refine wp_region_held_drew (S:=(fun w'=>w'.cell? ⟨gb,0,none⟩=some (.map (some mb))∧w'.rangeAt w3.heap.size 0 (keyA X))) (by kernel_rfl) ?_ (fun hHeld=>?_)
  ·(try dsimp only)
   exact ⟨m0,RK.out⟩
  refine tk 0 hHeld ?_
  (try simp only [Act.put,List.setIfInBounds_toArray,List.set_cons_zero,List.set_cons_succ])
  refine tk 1 hHeld ?_
  (try simp only [Act.put,List.setIfInBounds_toArray,List.set_cons_zero,List.set_cons_succ])
  refine tk 2 hHeld ?_
  (try simp only [Act.put,List.setIfInBounds_toArray,List.set_cons_zero,List.set_cons_succ])
  refine tk 3 hHeld ?_
  (try simp only [Act.put,List.setIfInBounds_toArray,List.set_cons_zero,List.set_cons_succ])
  refine wpAnyH_take (i:=4) (oi:=?oi3) (v:=?v3) ?hi3 (by kernel_rfl) (by kernel_rfl) (by kernel_rfl) (fun _ _ _ h=>h) ?yl3 hHeld ?rest3
  case hi3=>(simp only [List.getElem?_toArray,List.getElem?_cons_succ,List.getElem?_cons_zero];rfl)
  case yl3=>
   refine' yieldsIf_load_mid (by rfl) _ _ rfl _ _ rfl _ _ ?hS ?hu ?hd ?hj
   case hS=>(intro w hSw;exact hSw.2)
   case hu=>exact hu1
   case hd=>rfl
   case hj=>exact hinf
  (try simp only [Act.put,List.setIfInBounds_toArray,List.set_cons_zero,List.set_cons_succ])
  refine wpAnyH_ready (rs:=[5]) (by kernel_rfl) (by simp) ?_
  refine AllReadyH.cons (o:=?o4) ?ho4 (fun K hK=>?step4) AllReadyH.nil
  case ho4=>(simp only [List.getElem?_toArray,List.getElem?_cons_succ,List.getElem?_cons_zero];rfl)
  go_simp
  refine hK.out _ _ ?hS4 (fun hHeld'=>?rest4)
  case hS4=>((try dsimp only);exact ⟨m0,RK.out⟩)
  clear hK K
  (try simp only [Act.put,List.setIfInBounds_toArray,List.set_cons_zero,List.set_cons_succ])
  clear hHeld
  have hHeld:=hHeld'
  clear hHeld'
  refine tk 6 hHeld ?_
  (try simp only [Act.put,List.setIfInBounds_toArray,List.set_cons_zero,List.set_cons_succ])
  refine tk 7 hHeld ?_
  (try simp only [Act.put,List.setIfInBounds_toArray,List.set_cons_zero,List.set_cons_succ])
  refine tk 8 hHeld ?_
  (try simp only [Act.put,List.setIfInBounds_toArray,List.set_cons_zero,List.set_cons_succ])
  refine tk 9 hHeld ?_
  (try simp only [Act.put,List.setIfInBounds_toArray,List.set_cons_zero,List.set_cons_succ])
  refine tk 10 hHeld ?_
  (try simp only [Act.put,List.setIfInBounds_toArray,List.set_cons_zero,List.set_cons_succ])
  refine wpAnyH_done (by kernel_rfl) ?_ _
  refine NoPanic.normal ?_
  go_upto_region 5 with fail
  have HB5:=zbr (fun o=>(Below.refl _ _).alloc (Nat.le_refl _) o:∀ o,Below w4.heap.size w4 (w4.alloc o))
  clear hrun
  have D0:w4.drew.drew.cell? ⟨w1.heap.size,0,none⟩=some (.string X.cls):=G0
  have E0:∀ o,(w4.alloc o).drew.drew.cell? ⟨w1.heap.size,0,none⟩=some (.string X.cls):=fun o=>zaa (HB5.out o).drew.drew G0
  have D1:w4.drew.drew.cell? ⟨w1.heap.size,1,none⟩=some (.int .i64 X.arity):=G1
  have E1:∀ o,(w4.alloc o).drew.drew.cell? ⟨w1.heap.size,1,none⟩=some (.int .i64 X.arity):=fun o=>zaa (HB5.out o).drew.drew G1
  have D2:w4.drew.drew.cell? ⟨w1.heap.size,2,none⟩=some (.slice a1 X.tests.length c1):=G2
  have E2:∀ o,(w4.alloc o).drew.drew.cell? ⟨w1.heap.size,2,none⟩=some (.slice a1 X.tests.length c1):=fun o=>zaa (HB5.out o).drew.drew G2
  have D3:w4.drew.drew.cell? ⟨gb,1,none⟩=some (.slice la L.length lc):=m1
  have E3:∀ o,(w4.alloc o).drew.drew.cell? ⟨gb,1,none⟩=some (.slice la L.length lc):=fun o=>zaa (HB5.out o).drew.drew m1
  go_region_held3 (fun w'=>w'.cell? ⟨w1.heap.size,0,none⟩=some (.string X.cls)∧w'.cell? ⟨w1.heap.size,1,none⟩=some (.int .i64 X.arity)∧w'.cell? ⟨w1.heap.size,2,none⟩=some (.slice a1 X.tests.length c1)∧w'.cell? ⟨gb,1,none⟩=some (.slice la L.length lc)) (first | with_reducible exact ⟨D0,D1,D2,D3⟩ | with_reducible exact ⟨E0 _,E1 _,E2 _,E3 _⟩) (fail)
  go_upto_region 6 with fail
  refine zlU (w0:=w4) (o:=.cells #[.string X.cls,.int .i64 X.arity,.slice a1 X.tests.length c1,.int .i64 (L.length:Int),.slice none 0 0] 99) ((HB5.out _).drew.drew) (heap_alloc_new _ _) ?_
  intro w5 hW5 hq5
  have N5:=zbr (N4.out.bel hW5)
  have ND5:=zbr (show zk7 w5 w4.heap.size (X,.slice a1 X.tests.length c1) L.length from hq5)
  have B5:=zbr (B4.out.trans (hW5.mono B4.out.size))
  have XO5:=zbr (zai XO4.out hW5)
  have RK5:=zbr (show w5.rangeAt w3.heap.size 0 (keyA X) from fun j u hu=>zaa hW5 (RK.out j u hu))
  have hs5:=hW5.size
  have hl5:w4.heap.size<w5.heap.size:=zab hq5
  clear D0 D1 D2 D3 E0 E1 E2 E3
  clear hW5 hq5 G0 G1 G2 m0 m1 hgl B4 XO4 RK HB5
  obtain ⟨⟨m0,m1⟩,_,hgl⟩:=N5.out.box.facts
  obtain ⟨es0,cl0,hm0⟩:=zlD N5.out.map
  have hgm:gb≠mb:=fun e=>by have:=N5.out.box;unfold GB at this;rw [e,hm0] at this;cases this
  have hkm:w3.heap.size≠mb:=fun e=>by have:=N4.out.map.lt;have h2:=HN.out.map.lt;omega
  obtain ⟨w6,hrun6,ho6,hg6⟩:=(N5.out.map.drew).update zmp (t:=102) Tryz.underlying102 (by unfold maxLen;omega) (K X HX.out) (zm4 w4.heap.size)
  have M6:=zbr ho6
  have GR6:=zbr (show w5.grownBy w6 (some mb) from ⟨hg6.os,hg6.tape,hg6.output,hg6.size,hg6.block⟩)
  have hs6:w5.heap.size≤w6.heap.size:=hg6.size
  have GB6:=zbr (show GB w6 gb mb (.slice la L.length lc) from (GR6.out.block gb hgl (fun e=>hgm (by injection e))).trans N5.out.box)
  have RK6:=zbr (show w6.rangeAt w3.heap.size 0 (keyA X) from fun j u hu=>(World.cell?_of_block (w:=w5) (GR6.out.block w3.heap.size (by omega) (fun e=>hkm (by injection e)))).trans (RK5.out j u hu))
  have R6:=zbr (show w6.ownsRow base 100 1 (.slice la L.length lc) L.length (ptrs bs) from zaf N5.out.row fun k hk=>GR6.out.block k (N5.out.row.lt k hk).2 (fun e=>by injection e with e;obtain ⟨c',hc'⟩:=zah N5.out.row hk;rw [e,hm0] at hc';cases hc'))
  obtain ⟨⟨k0,k1⟩,_,hgl6⟩:=GB6.out.facts
  clear ho6 hg6 hm0
  refine wp_region_noPanic ?_
  refine wp_region_held_drew (S:=(fun w'=>w'.cell? ⟨gb,0,none⟩=some (.map (some mb))∧w'.rangeAt w3.heap.size 0 (keyA X))) (by kernel_rfl) ?_ (fun hHeld=>?_)
  ·(try dsimp only)
   exact ⟨m0,RK5.out⟩
  refine tk 0 hHeld ?_
  (try simp only [Act.put,List.setIfInBounds_toArray,List.set_cons_zero,List.set_cons_succ])
  refine tk 1 hHeld ?_
  (try simp only [Act.put,List.setIfInBounds_toArray,List.set_cons_zero,List.set_cons_succ])
  refine tk 2 hHeld ?_
  (try simp only [Act.put,List.setIfInBounds_toArray,List.set_cons_zero,List.set_cons_succ])
  refine tk 3 hHeld ?_
  (try simp only [Act.put,List.setIfInBounds_toArray,List.set_cons_zero,List.set_cons_succ])
  refine wpAnyH_take (i:=4) (oi:=?oi5) (v:=?v5) ?hi5 (by kernel_rfl) (by kernel_rfl) (by kernel_rfl) (fun _ _ _ h=>h) ?yl5 hHeld ?rest5
  case hi5=>(simp only [List.getElem?_toArray,List.getElem?_cons_succ,List.getElem?_cons_zero];rfl)
  case yl5=>
   refine' yieldsIf_load_mid (by rfl) _ _ rfl _ _ rfl _ _ ?hS ?hu ?hd ?hj
   case hS=>(intro w hSw;exact hSw.2)
   case hu=>exact hu1
   case hd=>rfl
   case hj=>exact hinf
  (try simp only [Act.put,List.setIfInBounds_toArray,List.set_cons_zero,List.set_cons_succ])
  refine tk 5 hHeld ?_
  (try simp only [Act.put,List.setIfInBounds_toArray,List.set_cons_zero,List.set_cons_succ])
  refine wpAnyH_ready (rs:=[6]) (by kernel_rfl) (by simp) ?_
  refine AllReadyH.cons (o:=?o6) ?ho6 (fun K hK=>?step6) AllReadyH.nil
  case ho6=>(simp only [List.getElem?_toArray,List.getElem?_cons_succ,List.getElem?_cons_zero];rfl)
  go_simp
  refine hK.out _ _ ?hS6 (fun hHeld'=>?rest6)
  case hS6=>((try dsimp only);exact ⟨k0,RK6.out⟩)
  clear hK K
  (try simp only [Act.put,List.setIfInBounds_toArray,List.set_cons_zero,List.set_cons_succ])
  clear hHeld
  have hHeld:=hHeld'
  clear hHeld'
  refine wpAnyH_done (by kernel_rfl) ?_ _
  refine NoPanic.normal ?_
  have HW:=zbr (fun o=>(Below.refl _ _).alloc (Nat.le_refl _) o:∀ o,Below w6.heap.size w6 (w6.alloc o))
  have GBA:=zbr (fun o=>show GB (w6.alloc o) gb mb (.slice la L.length lc) from ((HW.out o).block gb hgl6).trans GB6.out)
  have TY:=zbr (fun o k hk=>zah (zai R6.out (HW.out o)) (k:=k) hk)
  clear m0 m1 hrun6
  go_upto_region 8 with (first | (at_builtin;refine zae (by rfl) (.tmp 42) (.tmp 44) 103 (by rfl) base 100 _ 1 8 Tryz.underlying103 znm (by rfl) (by omega) _ L.length _ (by rfl) (zai R6.out (HW.out _)) (some ⟨_,0,none⟩) 1 1 (by rfl) [.pointer (some ⟨w4.heap.size,0,none⟩)] (by rfl) (fun e=>by cases e) (zaw _ _ _ _ (by simp)) (by intro u hu;simp at hu;subst hu;rfl) (by unfold maxLen;omega) (by omega) (by simp;omega) ?_;intro a7 c7 w7 ho7 hg7 hl7;have GB7:=zbr (show GB w7 gb mb (.slice la L.length lc) from zaL (GBA.out _) hg7.out (TY.out _) (by decide));obtain ⟨⟨l0,l1⟩,z,_⟩:=GB7.out.facts;have z1:=z 1;clear z) | fail)
  refine zml GB7.out ?_
  intro w8 hG8 ht8
  have hR:=NS.add K (x:=(X,.slice a1 X.tests.length c1)) N5.out ⟨⟨a1,c1,rfl⟩,zar XO5.out hbase⟩ (fun y hy g hg hgx=>by have h1:=((HN.out.als y hy).2.lt g hg).2;have h2:=(XO5.out.lt g hgx).1;omega) HX.out HIN.out ND5.out (by omega) M6.out GR6.out ho7.out hg7.out hG8 ht8
  have HR:=zbr hR
  have hbl:bs.length=L.length:=by have:=N5.out.inv.len;simpa using this
  have HBL:=zbr hbl
  clear hR hbl hG8 ht8
  go_wp2_with fail
  go_ret
  refine ⟨a7,c7,L ++ [(X,.slice a1 X.tests.length c1)],bs ++ [w4.heap.size],_,w4.heap.size,rfl,HR.out.1,?_,?_,Fr3.trans_below B5.out HR.out.2,fun i n h=>by rw [List.getElem?_append_left (List.getElem?_eq_some_iff.1 h).1];exact h,?_⟩
  ·rw [← HXE.out,ziU HIN.out]
   simp
  ·rw [← HXE.out,zhi HIN.out,hAL,List.getElem?_append_right (Nat.le_of_eq HBL.out),HBL.out,Nat.sub_self]
   rfl
  ·intro g hg
   rw [List.length_append] at hg
   rcases hl7.out with h | h
   ·rw [show L.length+[(X,Value.slice a1 X.tests.length c1)].length=L.length+1 from rfl,h] at hg
    exact .inl hg
   ·rw [show L.length+[(X,Value.slice a1 X.tests.length c1)].length=L.length+1 from rfl,h] at hg
    injection hg with hg
    have h5:=B5.out.size
    simp at hg
    exact .inr (by omega)
end Go.Proofs.YtmmdlgjmplddiaaGreat
namespace Go.Proofs.YtmmdlgjmplddiaaGreat
open Go.RowKit Go.Maps
attribute [local go_sem ↓] Go.wp_at_zero Go.wp_at_succ
def NTy (t:TypeId):Prop:=t=105∨t=100∨t=99∨t=111
theorem NS.keptB {kl:Al→Lit}{w w':World}{base gb mb:Nat}{la:Option Addr}{lc:Nat}{L:List AlX}{bs:List Nat}{D:DataW Unit} (h:NS kl w base gb mb la lc L bs D) (hb:∀ k,k<w.heap.size→(∀ c t fr,w.heap[k]?=some (Obj.cells c t fr)→NTy t)→w'.heap[k]?=w.heap[k]?):NS kl w' base gb mb la lc L bs D:=by
 have key:∀ (k:Nat) (c:Array Value) (t:TypeId) (fr:Nat × Nat),w.heap[k]?=some (.cells c t fr)→NTy t→w'.heap[k]?=some (.cells c t fr):=fun k c t fr hk ht=>(hb k (zab hk) (fun c' t' fr' hk'=>by rw [hk] at hk';injection hk' with hk';injection hk' with _ h2;rw [← h2];exact ht)).trans hk
 have keyO:∀ {e:TypeId}{m:Nat}{v:Value}{n:Nat}{xs:List Value},w.ownsRow base e m v n xs→NTy e→w'.ownsRow base e m v n xs:=fun ho he=>zaf ho fun k hk=>by
  obtain ⟨c,hc⟩:=zah ho hk
  rw [key k _ _ _ hc he,hc]
 refine ⟨key _ _ _ _ h.box (.inl rfl),?_,h.inv,keyO h.row (.inr (.inl rfl)),fun i x b hx hb'=>⟨key _ _ _ _ (h.node i x b hx hb').1 (.inr (.inr (.inl rfl))),(h.node i x b hx hb').2⟩,fun x hx=>⟨(h.als x hx).1,keyO (h.als x hx).2 (.inr (.inr (.inr rfl)))⟩,h.pair,h.gbase⟩
 obtain ⟨es,cl,hm⟩:=zlD h.map
 exact zcH h.map (hb mb h.map.lt (fun c t fr hc=>by rw [hm] at hc;cases hc))
theorem NS.grown {kl:Al→Lit}{w w':World}{base gb mb:Nat}{la:Option Addr}{lc:Nat}{L:List AlX}{bs:List Nat}{D:DataW Unit}{t:TypeId}{row:Option Nat} (h:NS kl w base gb mb la lc L bs D) (hg:w.grownBy w' row) (ht:∀ k,row=some k→∃ c,w.heap[k]?=some (.cells c t (0,0))) (hne:¬ NTy t):NS kl w' base gb mb la lc L bs D:=
 h.keptB fun k hk hty=>hg.block k hk (fun e=>by
  obtain ⟨c,hc⟩:=ht k e.symm
  exact hne (hty _ _ _ hc))
theorem Fr3.below {gb mb B:Nat}{row:Option Nat}{w w':World} (h:Fr3 gb mb row w w') (h0:B≤w.heap.size) (h1:B≤gb) (h2:B≤mb) (h3:∀ k,row=some k→B≤k):Below B w w':=
 ⟨h.rest.os,h.rest.tape,h.rest.output,h.rest.size,fun k hk=>h.block k (by omega) (by omega) (by omega) (fun e=>by have:=h3 k e;omega)⟩
theorem zhz {P:Program} (t:TypeId) (w:World):(Instr.makeMap t none).run P w=.ok (.map (some w.heap.size)) (w.alloc (.map #[] 0)):=by
 simp [Instr.makeMap]
set_option maxHeartbeats 400000 in
theorem zhy (kl:Al→Lit) (w:World):Calls Tryz.prog 31 #[] w fun e w'=>e=.returned (.pointer (some ⟨w.heap.size+1,0,none⟩))∧NS kl w' w.heap.size (w.heap.size+1) w.heap.size none 0 [] [] (.map [])∧Below w.heap.size w w':=by
 have hmm:=zhz (P:=Tryz.prog) 102
 go_enter Tryz.func31,Tryz.ntmps31
 go_wp2_with fail
 go_ret
 refine ⟨rfl,⟨?_,?_,MIA.start kl,World.ownsRow_nil _ _ _ _,fun i x b hx=>by simp at hx,fun x hx=>by simp at hx,List.Pairwise.nil,by omega⟩,((Below.refl _ _).alloc (Nat.le_refl _) _).alloc (by simp) _⟩
 ·exact zeL _ _ _ (by simp)
 ·exact zcH (World.ownsMap_made w Tryz.prog 153 ptrR) (Below.heap_alloc _ _ _ (by simp))
end Go.Proofs.YtmmdlgjmplddiaaGreat
namespace Go.Proofs.YtmmdlgjmplddiaaGreat
open Go.RowKit Go.Maps
structure Cx where
 cp:Cp
 node:Nat
 ta:Option Addr
 tc:Nat
def zb2 (c:Cx):List Value:=[.bool c.cp.neg,.int .i64 (c.cp.at_:Int),.pointer (some ⟨c.node,0,none⟩),.slice c.ta c.cp.tests.length c.tc]
theorem zkf (c:Cx):∀ u∈zb2 c,u.oneCell'=true:=by
 intro u hu
 simp [zb2] at hu
 rcases hu with rfl | rfl | rfl | rfl <;> rfl
def zaK:List Pt→List Vr→Nat→List Vr
 | [],vs,_=>vs
 | p :: ps,vs,n=>if p.neg=true then zaK ps vs n else zaK ps (zao vs p.terms n p.terms.length) (n+1)
theorem zbF {w w':World}{base b:Nat}{e t:TypeId}{m:Nat}{v:Value}{n:Nat}{xs:List Value}{c:Array Value}{fr:Nat × Nat} (h:w.ownsRow base e m v n xs) (hb:w.heap[b]?=some (.cells c t fr)) (ht:Turned w w' b) (hne:t≠e):w'.ownsRow base e m v n xs:=
 zaf h fun k hk=>ht.block k (fun e=>by
  obtain ⟨c',hc'⟩:=zah h hk
  subst e
  exact zaF hb hc' hne)
theorem Fr3.then_below {gb mb:Nat}{row:Option Nat}{u v w:World} (h:Fr3 gb mb row u v) (k:Below u.heap.size v w):Fr3 gb mb row u w:=⟨h.rest.trans (k.mono (Nat.zero_le _)),fun j hj h1 h2 h3=>(k.block j hj).trans (h.block j hj h1 h2 h3)⟩
theorem Fr3.then_fr {gb mb:Nat}{row row':Option Nat}{u v w:World} (h:Fr3 gb mb row u v) (k:Fr3 gb mb row' v w) (hr:∀ g,row'=some g→row=some g∨u.heap.size≤g):Fr3 gb mb row u w:=⟨h.rest.trans k.rest,fun j hj h1 h2 h3=>(k.block j (Nat.lt_of_lt_of_le hj h.rest.size) h1 h2 (fun e=>by rcases hr j e with h' | h';exact h3 h';omega)).trans (h.block j hj h1 h2 h3)⟩
theorem NS.turnedC {kl:Al→Lit}{w w':World}{base gb mb:Nat}{la:Option Addr}{lc:Nat}{L:List AlX}{bs:List Nat}{D:DataW Unit}{b:Nat}{c:Array Value}{t:TypeId}{fr:Nat × Nat} (h:NS kl w base gb mb la lc L bs D) (hb:w.heap[b]?=some (.cells c t fr)) (ht:Turned w w' b) (hne:¬ NTy t):NS kl w' base gb mb la lc L bs D:=
 h.keptB fun k hk hty=>ht.block k (fun e=>by
  subst e
  exact hne (hty _ _ _ hb))
theorem PlB.set0 {w:World}{b:Nat}{v0 v1:Value} (h:PlB w b v0 v1) (x:Value):PlB (w.setCell ⟨b,0,none⟩ x) b x v1:=by
 have:=zad (i:=0) h x
 simpa [PlB] using this
theorem zgx {P:World→Prop}{w:World}{b:Nat}{v0 v1 y:Value} (h0:PlB w b v0 v1) (h:∀ wt,PlB wt b y v1→Turned w wt b→P wt):P (w.setCell ⟨b,0,none⟩ y):=h _ (h0.set0 y) (Turned.setCells [y] 0 w b)
structure PN (w:World) (B pb:Nat) (ca:Option Addr) (cc:Nat) (va:Option Addr) (vc:Nat) (X:List Cx) (U:List Vr) (A:List Al) (bs:List Nat):Prop where
 box:PlB w pb (.slice ca X.length cc) (.slice va U.length vc)
 conds:w.ownsRow B 140 4 (.slice ca X.length cc) X.length (X.flatMap zb2)
 vars:w.ownsRow B 215 3 (.slice va U.length vc) U.length (U.flatMap zbA)
 tests:∀ c∈X,w.ownsRow B 182 4 (.slice c.ta c.cp.tests.length c.tc) c.cp.tests.length (c.cp.tests.flatMap zco)
 nodes:∀ c∈X,∃ i:Nat,A[i]?=some c.cp.alpha∧bs[i]?=some c.node
theorem PN.keptB {w w':World}{B pb:Nat}{ca:Option Addr}{cc:Nat}{va:Option Addr}{vc:Nat}{X:List Cx}{U:List Vr}{A:List Al}{bs:List Nat} (h:PN w B pb ca cc va vc X U A bs) (hb:∀ (k:Nat) (c:Array Value) (t:TypeId) (fr:Nat × Nat),w.heap[k]?=some (.cells c t fr)→(t=71∨t=140∨t=215∨t=182)→w'.heap[k]?=some (.cells c t fr)):PN w' B pb ca cc va vc X U A bs:=by
 have keyO:∀ {e:TypeId}{m:Nat}{v:Value}{n:Nat}{xs:List Value},w.ownsRow B e m v n xs→(e=71∨e=140∨e=215∨e=182)→w'.ownsRow B e m v n xs:=fun ho he=>zaf ho fun k hk=>by
  obtain ⟨c,hc⟩:=zah ho hk
  rw [hb k _ _ _ hc he,hc]
 exact ⟨hb _ _ _ _ h.box (.inl rfl),keyO h.conds (.inr (.inl rfl)),keyO h.vars (.inr (.inr (.inl rfl))),fun c hc=>keyO (h.tests c hc) (.inr (.inr (.inr rfl))),h.nodes⟩
theorem PN.bel {w w':World}{B pb:Nat}{ca:Option Addr}{cc:Nat}{va:Option Addr}{vc:Nat}{X:List Cx}{U:List Vr}{A:List Al}{bs:List Nat} (h:PN w B pb ca cc va vc X U A bs) (hb:Below w.heap.size w w'):PN w' B pb ca cc va vc X U A bs:=
 h.keptB fun k _ _ _ hk _=>(hb.block k (zab hk)).trans hk
structure PD (w:World) (B:Nat) (ca:Option Addr) (cc:Nat) (va:Option Addr) (vc:Nat) (X:List Cx) (U:List Vr) (A:List Al) (bs:List Nat):Prop where
 conds:w.ownsRow B 140 4 (.slice ca X.length cc) X.length (X.flatMap zb2)
 vars:w.ownsRow B 215 3 (.slice va U.length vc) U.length (U.flatMap zbA)
 tests:∀ c∈X,w.ownsRow B 182 4 (.slice c.ta c.cp.tests.length c.tc) c.cp.tests.length (c.cp.tests.flatMap zco)
 nodes:∀ c∈X,∃ i:Nat,A[i]?=some c.cp.alpha∧bs[i]?=some c.node
theorem PD.keptB {w w':World}{B:Nat}{ca:Option Addr}{cc:Nat}{va:Option Addr}{vc:Nat}{X:List Cx}{U:List Vr}{A:List Al}{bs:List Nat} (h:PD w B ca cc va vc X U A bs) (hb:∀ (k:Nat) (c:Array Value) (t:TypeId) (fr:Nat × Nat),w.heap[k]?=some (.cells c t fr)→(t=140∨t=215∨t=182)→w'.heap[k]?=some (.cells c t fr)):PD w' B ca cc va vc X U A bs:=by
 have keyO:∀ {e:TypeId}{m:Nat}{v:Value}{n:Nat}{xs:List Value},w.ownsRow B e m v n xs→(e=140∨e=215∨e=182)→w'.ownsRow B e m v n xs:=fun ho he=>zaf ho fun k hk=>by
  obtain ⟨c,hc⟩:=zah ho hk
  rw [hb k _ _ _ hc he,hc]
 exact ⟨keyO h.conds (.inl rfl),keyO h.vars (.inr (.inl rfl)),fun c hc=>keyO (h.tests c hc) (.inr (.inr rfl)),h.nodes⟩
theorem PD.bel {w w':World}{B:Nat}{ca:Option Addr}{cc:Nat}{va:Option Addr}{vc:Nat}{X:List Cx}{U:List Vr}{A:List Al}{bs:List Nat} (h:PD w B ca cc va vc X U A bs) (hb:Below w.heap.size w w'):PD w' B ca cc va vc X U A bs:=
 h.keptB fun k _ _ _ hk _=>(hb.block k (zab hk)).trans hk
theorem PN.pd {w:World}{B pb:Nat}{ca:Option Addr}{cc:Nat}{va:Option Addr}{vc:Nat}{X:List Cx}{U:List Vr}{A:List Al}{bs:List Nat} (h:PN w B pb ca cc va vc X U A bs):PD w B ca cc va vc X U A bs:=⟨h.conds,h.vars,h.tests,h.nodes⟩
structure PS (kl:Al→Lit) (w:World) (R0:Option Nat) (bs0:List Nat) (A0:List Al) (base gb mb pb:Nat) (la:Option Addr) (lc:Nat) (L:List AlX) (bs:List Nat) (D:DataW Unit) (ca:Option Addr) (cc:Nat) (va:Option Addr) (vc:Nat) (X:List Cx) (U:List Vr) (wr:World):Prop where
 ns:NS kl wr base gb mb la lc L bs D
 pn:PN wr w.heap.size pb ca cc va vc X U (L.map Prod.fst) bs
 fr:Fr3 gb mb R0 w wr
 rw':∀ g,(Value.slice la L.length lc).ownBlock=some g→R0=some g∨w.heap.size≤g
 ext:∀ (i n:Nat),bs0[i]?=some n→bs[i]?=some n
 exa:∀ (i:Nat) (y:Al),A0[i]?=some y→(L.map Prod.fst)[i]?=some y
 six:∀ x∈L,x.1.tests.length≤6
theorem PS.bel {kl:Al→Lit}{w wr w':World}{R0:Option Nat}{bs0:List Nat}{A0:List Al}{base gb mb pb:Nat}{la:Option Addr}{lc:Nat}{L:List AlX}{bs:List Nat}{D:DataW Unit}{ca:Option Addr}{cc:Nat}{va:Option Addr}{vc:Nat}{X:List Cx}{U:List Vr} (h:PS kl w R0 bs0 A0 base gb mb pb la lc L bs D ca cc va vc X U wr) (hb:Below wr.heap.size wr w'):PS kl w R0 bs0 A0 base gb mb pb la lc L bs D ca cc va vc X U w':=
 ⟨h.ns.bel hb,h.pn.bel hb,h.fr.then_below (hb.mono h.fr.rest.size),h.rw',h.ext,h.exa,h.six⟩
theorem zi1 {A:List Al}{x y:Al}{i:Nat} (h:A[i]?=some y):(addA A x)[i]?=some y:=by
 unfold addA
 split
 ·exact h
 ·rw [List.getElem?_append_left (List.getElem?_eq_some_iff.1 h).1]
  exact h
theorem PS.of {kl:Al→Lit}{w wr w':World}{R0:Option Nat}{bs0:List Nat}{A0:List Al}{base gb mb pb:Nat}{la la':Option Addr}{lc lc':Nat}{L L':List AlX}{bs bs':List Nat}{D D':DataW Unit}{ca:Option Addr}{cc:Nat}{va:Option Addr}{vc:Nat}{X:List Cx}{U:List Vr}{x:Al} (h:PS kl w R0 bs0 A0 base gb mb pb la lc L bs D ca cc va vc X U wr) (hn:NS kl w' base gb mb la' lc' L' bs' D') (hx6:x.tests.length≤6) (hL:L'.map Prod.fst=addA (L.map Prod.fst) x) (hf:Fr3 gb mb (Value.slice la L.length lc).ownBlock wr w') (he:∀ (i n:Nat),bs[i]?=some n→bs'[i]?=some n) (hr:∀ g,(Value.slice la' L'.length lc').ownBlock=some g→(Value.slice la L.length lc).ownBlock=some g∨wr.heap.size≤g):PS kl w R0 bs0 A0 base gb mb pb la' lc' L' bs' D' ca cc va vc X U w':=by
 have hp:PN w' w.heap.size pb ca cc va vc X U (L.map Prod.fst) bs:=h.pn.keptB fun k c t fr hk ht=>hf.box hk h.ns (by rcases ht with rfl | rfl | rfl | rfl <;> decide) (by rcases ht with rfl | rfl | rfl | rfl <;> decide)
 refine ⟨hn,⟨hp.box,hp.conds,hp.vars,hp.tests,fun c hc=>?_⟩,h.fr.then_fr hf h.rw',fun g hg=>?_,fun i n hi=>he i n (h.ext i n hi),fun i y hi=>by rw [hL];exact zi1 (h.exa i y hi),fun y hy=>?_⟩
 ·obtain ⟨i,h1,h2⟩:=hp.nodes c hc
  exact ⟨i,by rw [hL];exact zi1 h1,he i _ h2⟩
 ·rcases hr g hg with h1 | h1
  ·exact h.rw' g h1
  ·exact .inr (Nat.le_trans h.fr.rest.size h1)
 ·have hm:y.1∈addA (L.map Prod.fst) x:=by rw [← hL];exact List.mem_map.2 ⟨y,hy,rfl⟩
  unfold addA at hm
  split at hm
  ·obtain ⟨z,hz,e⟩:=List.mem_map.1 hm
   rw [← e]
   exact h.six z hz
  ·rcases List.mem_append.1 hm with hm | hm
   ·obtain ⟨z,hz,e⟩:=List.mem_map.1 hm
    rw [← e]
    exact h.six z hz
   ·rw [List.mem_singleton.1 hm]
    exact hx6
theorem PS.push {kl:Al→Lit}{w wr w7 w8:World}{R0:Option Nat}{bs0:List Nat}{A0:List Al}{base gb mb pb:Nat}{la:Option Addr}{lc:Nat}{L:List AlX}{bs:List Nat}{D:DataW Unit}{ca ca':Option Addr}{cc cc':Nat}{va:Option Addr}{vc:Nat}{X:List Cx}{U:List Vr}{c:Cx}{o:Obj} (h:PS kl w R0 bs0 A0 base gb mb pb la lc L bs D ca cc va vc X U wr) (ht:wr.ownsRow w.heap.size 182 4 (.slice c.ta c.cp.tests.length c.tc) c.cp.tests.length (c.cp.tests.flatMap zco)) (hnd:∃ i:Nat,(L.map Prod.fst)[i]?=some c.cp.alpha∧bs[i]?=some c.node) (hpb:w.heap.size≤pb)
  (ho7:w7.ownsRow w.heap.size 140 4 (.slice ca' (X.length+1) cc') (X.length+1) (X.flatMap zb2 ++ zb2 c)) (hg7:(wr.alloc o).grownBy w7 (Value.slice ca X.length cc).ownBlock) (hP8:PlB w8 pb (.slice ca' (X.length+1) cc') (.slice va U.length vc)) (ht8:Turned w7 w8 pb) :
  PS kl w R0 bs0 A0 base gb mb pb la lc L bs D ca' cc' va vc (X ++ [c]) U w8:=by
 have hA:Below wr.heap.size wr (wr.alloc o):=(Below.refl _ _).alloc (Nat.le_refl _) _
 have hsz:=h.fr.rest.size
 have h1:=h.bel hA
 have ht1:=zai ht hA
 have TY:=fun k hk=>zah h1.pn.conds (k:=k) hk
 have hP7:PlB w7 pb (.slice ca X.length cc) (.slice va U.length vc):=zaL h1.pn.box hg7 TY (by decide)
 have n7:=h1.ns.grown hg7 TY (by unfold NTy;decide)
 have v7:=zby h1.pn.vars hg7 TY (by decide)
 have t7:=zby ht1 hg7 TY (by decide)
 refine ⟨n7.turnedC hP7 ht8 (by unfold NTy;decide),⟨by simpa using hP8,?_,zbF v7 hP7 ht8 (by decide),fun d hd=>?_,fun d hd=>?_⟩,?_,h.rw',h.ext,h.exa,h.six⟩
 ·have:=zbF ho7 hP7 ht8 (by decide)
  simpa using this
 ·rcases List.mem_append.1 hd with hd | hd
  ·exact zbF (zby (h1.pn.tests d hd) hg7 TY (by decide)) hP7 ht8 (by decide)
  ·simp at hd
   subst hd
   exact zbF t7 hP7 ht8 (by decide)
 ·rcases List.mem_append.1 hd with hd | hd
  ·exact h.pn.nodes d hd
  ·simp at hd
   subst hd
   exact hnd
 ·refine h1.fr.then_below (((Below.refl _ _).grown hg7 (by simp;omega) (fun k hk=>(h1.pn.conds.lt k hk).1)).trans (ht8.below hpb))
theorem PS.fill {kl:Al→Lit}{w wr w':World}{R0:Option Nat}{bs0:List Nat}{A0:List Al}{base gb mb pb:Nat}{la:Option Addr}{lc:Nat}{L:List AlX}{bs:List Nat}{D:DataW Unit}{ca:Option Addr}{cc:Nat}{va:Option Addr}{vc:Nat}{X:List Cx}{U:List Vr}{b:Nat}{c:Array Value}{fr:Nat × Nat} (h:PS kl w R0 bs0 A0 base gb mb pb la lc L bs D ca cc va vc X U wr) (hb:wr.heap[b]?=some (.cells c 140 fr)) (ht:Turned wr w' b) (hne:∀ g,(Value.slice ca X.length cc).ownBlock=some g→g≠b) (hwb:w.heap.size≤b):PS kl w R0 bs0 A0 base gb mb pb la lc L bs D ca cc va vc X U w':=
 ⟨h.ns.turnedC hb ht (by unfold NTy;decide),⟨(ht.block pb (fun e=>by subst e;exact zaF h.pn.box hb (by decide))).trans h.pn.box,zaf h.pn.conds (fun k hk=>ht.block k (hne k hk)),zbF h.pn.vars hb ht (by decide),fun d hd=>zbF (h.pn.tests d hd) hb ht (by decide),h.pn.nodes⟩,h.fr.then_below (ht.below hwb),h.rw',h.ext,h.exa,h.six⟩
theorem zcw {w w':World}{b d:Nat}{c c':Array Value}{t t':TypeId}{fr fr':Nat × Nat} (h:w.heap[b]?=some (.cells c t fr)) (hd:w.heap[d]?=some (.cells c' t' fr')) (ht:Turned w w' d) (hne:t≠t'):w'.heap[b]?=some (.cells c t fr):=
 (ht.block b (fun e=>by subst e;exact zaF h hd hne)).trans h
theorem PS.bindP {kl:Al→Lit}{w wr w':World}{R0:Option Nat}{bs0:List Nat}{A0:List Al}{base gb mb pb:Nat}{la:Option Addr}{lc:Nat}{L:List AlX}{bs:List Nat}{D:DataW Unit}{ca:Option Addr}{cc:Nat}{va va':Option Addr}{vc vc':Nat}{X:List Cx}{U U':List Vr} (h:PS kl w R0 bs0 A0 base gb mb pb la lc L bs D ca cc va vc X U wr) (hpb:w.heap.size≤pb) (hP:PlB w' pb (.slice ca X.length cc) (.slice va' U'.length vc')) (hO:w'.ownsRow w.heap.size 215 3 (.slice va' U'.length vc') U'.length (U'.flatMap zbA)) (hF:Fp pb (Value.slice va U.length vc).ownBlock wr w'):PS kl w R0 bs0 A0 base gb mb pb la lc L bs D ca cc va' vc' X U' w':=by
 have hsz:=h.fr.rest.size
 have far:∀ (k:Nat) (c:Array Value) (t:TypeId) (fr:Nat × Nat),wr.heap[k]?=some (.cells c t fr)→t≠71→t≠215→w'.heap[k]?=some (.cells c t fr):=fun k c t fr hk h1 h2=>by
  refine (hF.block k (zab hk) (fun e=>?_) (fun e=>?_)).trans hk
  ·subst e
   exact zaF hk h.pn.box h1
  ·obtain ⟨c',hc'⟩:=zah h.pn.vars e
   exact zaF hk hc' h2
 have farO:∀ {e:TypeId}{m:Nat}{v:Value}{n:Nat}{xs:List Value},wr.ownsRow w.heap.size e m v n xs→e≠71→e≠215→w'.ownsRow w.heap.size e m v n xs:=fun ho h1 h2=>zaf ho fun k hk=>by
  obtain ⟨c,hc⟩:=zah ho hk
  rw [far k _ _ _ hc h1 h2,hc]
 refine ⟨h.ns.keptB fun k hk hty=>hF.block k hk (fun e=>?_) (fun e=>?_),⟨hP,farO h.pn.conds (by decide) (by decide),hO,fun d hd=>farO (h.pn.tests d hd) (by decide) (by decide),h.pn.nodes⟩,?_,h.rw',h.ext,h.exa,h.six⟩
 ·subst e
  exact absurd (hty _ _ _ h.pn.box) (by unfold NTy;decide)
 ·obtain ⟨c',hc'⟩:=zah h.pn.vars e
  exact absurd (hty _ _ _ hc') (by unfold NTy;decide)
 ·exact h.fr.then_below ⟨hF.rest.os,hF.rest.tape,hF.rest.output,hF.rest.size,fun k hk=>hF.block k (Nat.lt_of_lt_of_le hk hsz) (by omega) (fun e=>by have:=(h.pn.vars.lt k e).1;omega)⟩
theorem zkQ:(Tryz.prog.info? 140).map (fun i=>(i.zero,i.size,i.bytes))=some (some (.agg #[.bool false,.int .i64 0,.pointer none,.slice none 0 0]),4,48):=by kernel_rfl
theorem zkN (A:List Al) (x:Al):(addA A x)[zbR x A]?=some x:=by
 by_cases h:zbR x A<A.length
 ·rw [ziP h]
  exact zi4 h
 ·rw [ziU h,zhi h]
  simp
theorem zbP (p:Pt) (ps:List Pt) (vs:List Vr) (n:Nat):zax (p :: ps) vs n=⟨p.neg,n,zaB p,zat vs p.terms p.terms.length⟩ :: (if p.neg=true then zax ps vs n else zax ps (zao vs p.terms n p.terms.length) (n+1)):=rfl
theorem zbU (p:Pt) (ps:List Pt) (vs:List Vr) (n:Nat):zaK (p :: ps) vs n=if p.neg=true then zaK ps vs n else zaK ps (zao vs p.terms n p.terms.length) (n+1):=rfl
theorem ziZ {P:World→Prop}{w:World}{b:Nat}{t:TypeId}{x0 x1 x2 x3 y0 y1 y2 y3:Value} (h0:w.heap[b]?=some (.cells #[x0,x1,x2,x3] t (0,0))) (h:∀ wt,wt.heap[b]?=some (.cells #[y0,y1,y2,y3] t (0,0))→Turned w wt b→P wt):P ((((w.setCell ⟨b,0,none⟩ y0).setCell ⟨b,1,none⟩ y1).setCell ⟨b,2,none⟩ y2).setCell ⟨b,3,none⟩ y3):=by
 have h1:=zad (i:=0) h0 y0
 have h2:=zad (i:=1) h1 y1
 have h3:=zad (i:=2) h2 y2
 have h4:=zad (i:=3) h3 y3
 exact h _ (by simpa using h4) (Turned.setCells [y0,y1,y2,y3] 0 w b)
end Go.Proofs.YtmmdlgjmplddiaaGreat
namespace Go.Proofs.YtmmdlgjmplddiaaGreat
open Go.RowKit
attribute [local go_sem ↓] Go.wp_at_zero Go.wp_at_succ
def zmC (bs:List Bd) (w:World) (e:Ending) (w':World):Prop:=(∃ a c,e=.returned (.slice a bs.length c)∧w'.ownsRow w.heap.size 220 4 (.slice a bs.length c) bs.length (bs.flatMap zba))∧Below w.heap.size w w'
theorem zmC.nil {bs:List Bd}{w w':World} (h1:bs=[]) (h3:Below w.heap.size w w'):zmC bs w (.returned (.slice none 0 0)) w':=by
 subst h1
 exact ⟨⟨none,0,rfl,World.ownsRow_nil _ _ _ _⟩,h3⟩
end Go.Proofs.YtmmdlgjmplddiaaGreat
