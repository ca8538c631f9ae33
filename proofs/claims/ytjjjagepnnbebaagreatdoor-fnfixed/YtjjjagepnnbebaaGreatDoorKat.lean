/-
  OUR OWN TEXT. Sx9, Sx10, one behind the other.
-/
import Derived.Test.YtjjjagepnnbebaaGreatDoorKap
import Derived.WalkMore
set_option maxHeartbeats 3200000
set_option maxRecDepth 100000
namespace Go.Proofs.YtjjjagepnnbebaaGreatDoor
open Go.RowKit
attribute [local go_sem ↓] Go.wp_at_zero Go.wp_at_succ
theorem zk9:∀ l:Bs,(Lib.indexByte l 10 = -1/\zbs zcA l=l.length)∨Lib.indexByte l 10=(zbs zcA l:Int)
 | []=>.inl ⟨rfl,rfl⟩
 | b :: l=>by
  unfold Lib.indexByte
  by_cases h:b=10
  ·right
   subst h
   rfl
  have e1:(b==10)=false:=beq_eq_false_iff_ne.2 h
  have e2:zbs zcA (b :: l)=zbs zcA l+1:=by
   unfold zbs;rw[List.takeWhile_cons_of_pos (by unfold zcA;simpa using h)];rfl
  rw[e1,e2];rcases zk9 l with ⟨h1,h2⟩ | h1
  ·left
   rw[h1,h2];exact ⟨rfl,rfl⟩
  right
  have h3:(Lib.indexByte l 10 == -1)=false:=beq_eq_false_iff_ne.2 (by omega);rw[h3,h1];simp
def zcX(src:Bs)(k:Nat):Nat:=k+zbs zcA (src.drop k)
theorem zlX{src:Bs}{b o:Nat}{w:World}(hv:zbZ w (some ⟨b,o,none⟩) src)(k:Nat)(c:Nat)(hk:k<=src.length):Calls Tryz.prog 175 #[.slice (some ⟨b,o+k,none⟩) (src.length - k) c,.int .u8 10] w fun e w'=>e=.returned (.int .i64 (Lib.indexByte (src.drop k) 10))/\w'=w:=by
 refine (Tryz.bytes_IndexByte b (o+k) (src.length - k) c ((src.drop k).map fun x=>(x.toNat:Int)) 10 w (by simp) (fun i hi=>?_)).mono fun e G h=>⟨?_,h.2⟩
 ·have hx:src[k+i]?=some (src[k+i]'(by omega)):=by simp
  obtain ⟨I,o',e,_,E⟩:=hv (k+i) _ hx;simp only[Option.some.injEq,Addr.mk.injEq,and_true]at e;obtain ⟨rfl,rfl⟩:=e;rw[Nat.add_assoc,E];simp[hi]
 have e1:Lib.bytesOf ((src.drop k).map fun x=>(x.toNat:Int))=src.drop k:=by
  unfold Lib.bytesOf;rw[List.map_map];exact List.map_id'' (fun x=>by simp) _
 rw[h.1,e1];rfl
theorem zgS{w w':World}{b:Nat}(h:Turned w.drew w' b):Turned w w' b:=⟨h.os,h.tape,h.output,h.size,h.block⟩
theorem zgJ(src:Bs)(b o c sb so k:Nat)(t:TypeId)(cs:Array Value)(w:World)(hv:zbZ w (some ⟨b,o,none⟩) src)(hl:src.length<=20000)(G:src.length<=c)(hk:k<src.length)(hb:w.heap[sb]?=some (.cells cs t (0,0)))(Z:cs[so]?=some (.slice (some ⟨b,o,none⟩) src.length c))(h1:cs[so+1]?=some (.int .i64 (k:Int))):Calls Tryz.prog 170 #[.pointer (some ⟨sb,so,none⟩)] w fun e w'=>e=.returned (.tuple #[])/\w'.heap[sb]?=some (.cells (cs.setIfInBounds (so+1) (.int .i64 (zcX src k:Int))) t (0,0))/\Turned w w' sb:=by
 have c0:w.cell? ⟨sb,so,none⟩=some (.slice (some ⟨b,o,none⟩) src.length c):=by simp[World.cell?,hb,Z]
 have O:w.cell? ⟨sb,so+1,none⟩=some (.int .i64 (k:Int)):=by simp[World.cell?,hb,h1]
 have X:w.frozen? ⟨sb,so+1,none⟩=false:=by simp[World.frozen?,hb]
 have HI:Hid (∀ c',Calls Tryz.prog 175 #[.slice (some ⟨b,o+k,none⟩) (src.length - k) c',.int .u8 10] w.drew fun e w'=>e=.returned (.int .i64 (Lib.indexByte (src.drop k) 10))/\w'=w.drew):=fun c'=>zlX (hv.below (zeY (Below.refl _ _))) k c' (by omega);have U:¬ c=k:=by omega
 have s0:(0:Int)<=(k:Int):=by omega
 have s1:(k:Int)<=(src.length:Int):=by omega
 have s2:(src.length:Int)<=(c:Int):=by omega
 go_enter Tryz.func170,Tryz.ntmps170;go_wp2_with fail
 go_region_held3 (fun w'=>w'.cell? ⟨sb,so,none⟩=some (.slice (some ⟨b,o,none⟩) src.length c)/\w'.cell? ⟨sb,so+1,none⟩=some (.int .i64 (k:Int))) ((go_split_ands;refine ⟨?_,?_⟩ <;> first | assumption | (simp[*];done)))
  (first | (go_at_call 175;refine (HI.out _).mono ?_;rintro e w1 ⟨rfl,hw⟩;rw[hw];clear hw w1))
 have ab:zbs zcA (src.drop k)<=src.length - k:=by
  have:=(List.takeWhile_sublist zcA (l:=src.drop k)).length_le;rw[List.length_drop]at this;exact this
 have d1:w.drew.cell? ⟨sb,so+1,none⟩=some (.int .i64 (k:Int)):=O;have d0:w.drew.cell? ⟨sb,so,none⟩=some (.slice (some ⟨b,o,none⟩) src.length c):=c0;have y1:w.drew.frozen? ⟨sb,so+1,none⟩=false:=X;rcases zk9 (src.drop k) with ⟨g1,g2⟩ | g1
 ·have E:Hid (zcX src k=src.length):=show _=_ from by
   unfold zcX;rw[g2,List.length_drop];omega
  have g3:Lib.indexByte (src.drop k) 10<0:=by omega
  clear g1 g2;go_wp2;refine bodyPost_ret (v:=.tuple #[]) (by simp[results,Tryz.results170]) rfl ⟨rfl,?_,?_⟩
  ·rw[E.out];exact zap (w:=w.drew) hb _
  exact zgS (Turned.setCells [_] (so+1) w.drew sb)
 have g3:¬ Lib.indexByte (src.drop k) 10<0:=by omega
 have I:wrap64 ((k:Int)+Lib.indexByte (src.drop k) 10)=(zcX src k:Int):=by
  rw[g1];unfold zcX wrap64;omega
 clear g1;go_wp2;refine bodyPost_end (results_none rfl _ _ _) rfl ⟨rfl,?_,?_⟩
 ·exact zap (w:=w.drew) hb _
 exact zgS (Turned.setCells [_] (so+1) w.drew sb)
theorem zoD{cs:Array Value}{i:Nat}{v:Value}(h:cs[i]?=some v):cs.setIfInBounds i v=cs:=by
 apply Array.ext_getElem?;intro j;rw[Array.getElem?_setIfInBounds];by_cases hj:i=j
 ·subst hj;obtain ⟨h1,h2⟩:=Array.getElem?_eq_some_iff.1 h;simp[h1,h2]
 simp[hj]
theorem zfu(cs:Array Value)(i:Nat)(u v:Value):(cs.setIfInBounds i u).setIfInBounds i v=cs.setIfInBounds i v:=by
 apply Array.ext_getElem?;intro j;by_cases hj:i=j
 ·subst hj;simp[Array.getElem?_setIfInBounds]
 simp[hj]
theorem Turned.drew'{w w':World}{b:Nat}(h:Turned w w' b):Turned w w'.drew b:=⟨h.os,h.tape,h.output,h.size,h.block⟩
theorem Turned.trans'{w w' E:World}{b:Nat}(h:Turned w w' b)(g:Turned w' E b):Turned w E b:=⟨g.os.trans h.os,g.tape.trans h.tape,g.output.trans h.output,g.size.trans h.size,fun k hk=>(g.block k hk).trans (h.block k hk)⟩
theorem zkm{sb so n:Nat}{w:World}{t:TypeId}{cs:Array Value}(h:w.heap[sb]?=some (.cells (cs.setIfInBounds (so+1) (.int .i64 (n:Int))) t (0,0)))(E:so+1<cs.size):w.cell? ⟨sb,so+1,none⟩=some (.int .i64 (n:Int)):=by
 simp[World.cell?,h,E]
theorem zl2{src:Bs}{j:Nat}(h:src[j]?=some 59):j<zcX src j/\zcX src j<=src.length:=by
 have hj:j<src.length:=(List.getElem?_eq_some_iff.1 h).1;have e:src.drop j=59 :: src.drop (j+1):=by
  rw[List.drop_eq_getElem_cons hj,(List.getElem?_eq_some_iff.1 h).2]
 have h2:=zlq zcA (src.drop j);have h3:1<=zbs zcA (src.drop j):=by
  rw[e];unfold zbs;rw[List.takeWhile_cons_of_pos line59];simp
 rw[List.length_drop]at h2;unfold zcX;omega
def atOf(sb so:Nat)(w:World):Nat:=match w.cell? ⟨sb,so+1,none⟩ with
 | some v=>(intOf v).toNat
 | none=>0
theorem moved{sb so n j:Nat}{w:World}{t:TypeId}{cs:Array Value}(h:w.heap[sb]?=some (.cells (cs.setIfInBounds (so+1) (.int .i64 (j:Int))) t (0,0)))(v:Value)(hv:v=.int .i64 (n:Int)):((w.drew.drew).setCell ⟨sb,so+1,none⟩ v).heap[sb]?=some (.cells (cs.setIfInBounds (so+1) (.int .i64 (n:Int))) t (0,0)):=by
 subst hv;have:=zap (w:=w.drew.drew) (i:=so+1) h (.int .i64 (n:Int));rw[zfu]at this;exact this
theorem zmu{sb so n j:Nat}{w:World}{t:TypeId}{cs:Array Value}(E:so+1<cs.size)(h:w.heap[sb]?=some (.cells (cs.setIfInBounds (so+1) (.int .i64 (j:Int))) t (0,0)))(v:Value)(hv:v=.int .i64 (n:Int)):atOf sb so ((w.drew.drew).setCell ⟨sb,so+1,none⟩ v)=n:=by
 unfold atOf;rw[zkm (moved h v hv) E];simp[intOf]
def zry(src:Bs)(k sb so:Nat)(t:TypeId)(cs:Array Value)(w:World)(w':World):Prop:=∃ j,k<=j/\j<=src.length/\zaQ src j=zaQ src k/\(∀ x,src[j]?=some x->zcJ x=false/\x≠59)/\w'.heap[sb]?=some (.cells (cs.setIfInBounds (so+1) (.int .i64 (j:Int))) t (0,0))/\Turned w w' sb
theorem zpa(src:Bs)(a:Option Addr)(c sb so k:Nat)(t:TypeId)(cs:Array Value)(w:World)(hv:zbZ w a src)(af:∀ b o,a=some ⟨b,o,none⟩->b≠sb)(hl:src.length<=20000)(ao:src.length<=c)(hk:k<=src.length)(hb:w.heap[sb]?=some (.cells cs t (0,0)))(h0:cs[so]?=some (.slice a src.length c))(h1:cs[so+1]?=some (.int .i64 (k:Int))):Calls Tryz.prog 159 #[.pointer (some ⟨sb,so,none⟩)] w fun e w'=>e=.returned (.tuple #[])/\zry src k sb so t cs w w':=by
 have HV:=hidX hv;have ag:=hidX af;have HB:=hidX hb;have H0:=hidX h0;have H1:=hidX h1;have ad:so+1<cs.size:=(Array.getElem?_eq_some_iff.1 h1).1;clear hv af hb h0 h1;go_enter Tryz.func159,Tryz.ntmps159
 go_step3
 go_wp2
 go_step3
 go_wp2
 go_loopw [2] (fun _ wr=>∃ j:Nat,k<=j/\j<=src.length/\zaQ src j=zaQ src k/\wr.heap[sb]?=some (.cells (cs.setIfInBounds (so+1) (.int .i64 (j:Int))) t (0,0))/\Turned w wr sb) (fun _ wr=>src.length - atOf sb so wr)
 case atStart=>exact ⟨k,Nat.le_refl _,hk,rfl,by rw[zoD H1.out];exact HB.out,⟨rfl,rfl,rfl,rfl,fun _ _=>rfl⟩⟩
 case round=>
  obtain ⟨j,ak,hj,I,U,ae⟩:=hrel;have c0:wr.cell? ⟨sb,so,none⟩=some (.slice a src.length c):=by
   simp[World.cell?,U,H0.out]
  have c1:wr.cell? ⟨sb,so+1,none⟩=some (.int .i64 (j:Int)):=by
   simp[World.cell?,U,ad]
  by_cases al:j<src.length
  ·obtain ⟨x,hx⟩:∃ x,src[j]?=some x:=⟨src[j],by simp[al]⟩
   have E:=zei hx;obtain ⟨b,o,rfl,au,aq⟩:=HV.out j x hx;have az:b≠sb:=ag.out b o rfl;have hc:wr.cell? ⟨b,o+j,none⟩=some (.int .u8 (x.toNat:Int)):=(ae.cell az).trans aq;have z1:wr.frozen? ⟨sb,so+1,none⟩=false:=by simp[World.frozen?,U]
   have k0:(0:Int)<=(j:Int):=by omega
   have k1:(j:Int)<(src.length:Int):=by omega
   have ab:=hidX U;have Z:=hidX ae;have X:=hidX (zkN x);have HM:Hid (atOf sb so wr=j):=show _=_ from by unfold atOf;rw[c1];simp[intOf]
   have ap:zbZ wr (some ⟨b,o,none⟩) src:=fun i y hy=>by
    obtain ⟨b',o',e,h1,h2⟩:=HV.out i y hy;exact ⟨b',o',e,by rw[Z.out.size];exact h1,(Z.out.cell (ag.out b' o' e)).trans h2⟩
   have ar:=hidX ap;clear aq U ae au ap;by_cases G:zcJ x=true
   ·rw[if_pos G]at E;have HS:Hid (zaQ src (j+1)=zaQ src k):=show _=_ from by rw[<- E,I]
    rw[G]at X;clear E G I;go_wp2_with fail
    go_region;go_wp2_with fail
    go_region;go_wp2_with (go_at_call 169;refine (X.out _).mono ?_;rintro e w1 ⟨rfl,hw⟩;rw[hw];clear hw w1);go_roundw
    case rel=>exact ⟨j+1,by omega,by omega,HS.out,moved ab.out _ (by go_num),Z.out.drew'.drew'.trans' (Turned.setCells [_] (so+1) _ sb)⟩
    case measure=>
     rw[HM.out];have e:=zmu (n:=j+1) ad ab.out (.int .i64 ((j:Int)+1)) (by go_num);change _ - atOf sb so ((wr.drew.drew).setCell ⟨sb,so+1,none⟩ (.int .i64 ((j:Int)+1)))<_;rw[e];omega
   have ah:zcJ x=false:=by simpa using G
   rw[if_neg G]at E;rw[ah]at X;by_cases O:x=59
   ·rw[if_pos O]at E;have HS:Hid (zaQ src (zcX src j)=zaQ src k):=show _=_ from by unfold zcX;rw[<- E,I]
    obtain ⟨aA,ax⟩:=zl2 (O ▸ hx);have he:((x.toNat:Int)==59)=true:=by rw[O];rfl
    have ay:=hidX (zgJ src b o c sb so j t (cs.setIfInBounds (so+1) (.int .i64 (j:Int))) wr.drew.drew (fun i y hy=>ar.out i y hy) hl ao al ab.out (by simp[H0.out]) (by simp[ad]));clear E G ah I O;go_wp2_with fail
    go_region;go_wp2_with fail
    go_region;go_wp2_with (first | (go_at_call 169;refine (X.out _).mono ?_;rintro e w1 ⟨rfl,hw⟩;rw[hw];clear hw w1) | (go_at_call 170;refine ay.out.mono ?_;rintro e w1 ⟨rfl,aj,aw⟩) | fail);rw[zfu]at aj;go_roundw
    case rel=>exact ⟨zcX src j,by omega,ax,HS.out,aj,Z.out.drew'.drew'.trans' aw⟩
    case measure=>
     rw[HM.out,show atOf sb so w1=zcX src j by unfold atOf;rw[zkm aj ad];simp[intOf]];omega
   have he:((x.toNat:Int)==59)=false:=beqF fun h=>O (zeL.1 (by rw[h];rfl));clear E G;go_wp2_with fail
   go_region;go_wp2_with fail
   go_region;go_wp2_with (go_at_call 169;refine (X.out _).mono ?_;rintro e w1 ⟨rfl,hw⟩;rw[hw];clear hw w1);rw[Exit.noGoto_normal];refine bodyPost_end (results_none rfl _ _ _) rfl ⟨rfl,j,ak,hj,I,fun y hy=>?_,ab.out,Z.out.drew'.drew'⟩;rw[hx]at hy;injection hy with hy;subst hy;exact ⟨ah,O⟩
  obtain rfl:j=src.length:=by omega
  have j1:¬ (src.length:Int)<(src.length:Int):=by omega
  go_wp2_with fail
  go_region;go_wp2;rw[Exit.noGoto_normal];refine bodyPost_end (results_none rfl _ _ _) rfl ⟨rfl,src.length,ak,Nat.le_refl _,I,fun x hx=>?_,U,ae.drew'⟩;rw[List.getElem?_eq_none (Nat.le_refl _)]at hx
  cases hx
end Go.Proofs.YtjjjagepnnbebaaGreatDoor
