/-
  OUR OWN TEXT. Pr1, Pt1, Pr2, one behind the other.
-/
import Derived.Test.YtjjjagepnnbebaaGreatDoorKba
import Derived.Test.YtjjjagepnnbebaaGreatDoorKac
set_option maxHeartbeats 3200000
set_option maxRecDepth 100000
namespace Go.Proofs.YtjjjagepnnbebaaGreatDoor
def zVr:V:=(0,0,mkS [])
def zbM(l:List Wd):Px Tm:=andP (zai 61 l) fun o l1=>andP (zaj l1) fun x l2=>
 if pkW x=48∨pkW x=97 then andP (zai 41 l2) fun _ l3=>.ok (⟨3,(zaH (ptW o):Int),mkS [],wVal (pkW x) x.num (ptW x)⟩,l3)
 else if pkW x=63 then andP (zai 41 l2) fun _ l3=>.ok (⟨3,(zaH (ptW o):Int),mkS (ptW x),zVr⟩,l3)
 else .error (3,x.pos)
def zaX(l:List Wd):Px Tm:=andP (zaj l) fun x l1=>
 if pkW x=95 then .ok (⟨0,0,mkS [],zVr⟩,l1)
 else if pkW x=48∨pkW x=97 then .ok (⟨1,0,mkS [],wVal (pkW x) x.num (ptW x)⟩,l1)
 else if pkW x=63 then .ok (⟨2,0,mkS (ptW x),zVr⟩,l1)
 else if pkW x=40 then zbM l1
 else .error (3,x.pos)
def pPat(l:List Wd):Px Pt:=andP (zai 97 l) fun x l1=>
 if ptW x=notT then andP (za3 l1) fun c l2=>andP (zbi zaX 6 l2) fun ts l3=>.ok (⟨true,mkS c,ts⟩,l3)
 else andP (zbi zaX 6 l1) fun ts l3=>.ok (⟨false,mkS (ptW x),ts⟩,l3)
abbrev ES:=List Ex × Nat
def zaw:Nat->ES->List Wd->Px (Int × ES)
 | f,s,l=>match zaW (s.2:Int) 60 l with
  | .error e=>.error e
  | .ok _=>match zaj l with
   | .error e=>.error e
   | .ok (x,l1)=>
    if pkW x=48∨pkW x=97 then .ok (((s.1.length:Int),(s.1 ++ [⟨0,0,mkS [],wVal (pkW x) x.num (ptW x),0,0⟩],s.2+1)),l1)
    else if pkW x=63 then .ok (((s.1.length:Int),(s.1 ++ [⟨1,0,mkS (ptW x),zVr,0,0⟩],s.2+1)),l1)
    else if pkW x=40 then match f with
     | 0=>.error (4,x.pos)
     | f+1=>match zai 43 l1 with
      | .error e=>.error e
      | .ok (o,l2)=>match zaw f (s.1,s.2+1) l2 with
       | .error e=>.error e
       | .ok ((i,s1),l3)=>match zaw f s1 l3 with
        | .error e=>.error e
        | .ok ((j,s2),l4)=>match zai 41 l4 with
         | .error e=>.error e
         | .ok (_,l5)=>.ok (((s2.1.length:Int),(s2.1 ++ [⟨2,(((ptW o).headD 0).toNat:Int),mkS [],zVr,i,j⟩],s2.2)),l5)
    else .error (3,x.pos)
def zaB{σ α:Type}(rd:σ->List Wd->Px (α × σ)):Nat->σ->List Wd->Px (List α × σ)
 | 0,s,l=>match zaj l with
  | .error f=>.error f
  | .ok (x,r)=>if pkW x=41 then .ok (([],s),r) else if pkW x=0 then .error (3,x.pos) else .error (4,x.pos)
 | n+1,s,l=>match zaj l with
  | .error f=>.error f
  | .ok (x,r)=>if pkW x=41 then .ok (([],s),r) else match rd s l with
   | .error f=>.error f
   | .ok ((v,s1),l1)=>match zaB rd n s1 l1 with
    | .error f=>.error f
    | .ok ((vs,s2),l2)=>.ok ((v :: vs,s2),l2)
def za1{α:Type}(k:Int)(rd:List Wd->Px α):Nat->List Wd->Px (List α)
 | 0,l=>match zaj l with
  | .error f=>.error f
  | .ok (x,_)=>if pkW x=k then .ok ([],l) else if pkW x=40 then .error (4,x.pos) else .error (3,x.pos)
 | n+1,l=>match zaj l with
  | .error f=>.error f
  | .ok (x,_)=>if pkW x=k then .ok ([],l) else match zai 40 l with
   | .error f=>.error f
   | .ok (_,l1)=>match rd l1 with
    | .error f=>.error f
    | .ok (v,l2)=>match za1 k rd n l2 with
     | .error f=>.error f
     | .ok (vs,l3)=>.ok (v :: vs,l3)
def zaK{σ α:Type}(k:Int)(rd:σ->List Wd->Px (α × σ)):Nat->σ->List Wd->Px (List α × σ)
 | 0,s,l=>match zaj l with
  | .error f=>.error f
  | .ok (x,_)=>if pkW x=k then .ok (([],s),l) else if pkW x=40 then .error (4,x.pos) else .error (3,x.pos)
 | n+1,s,l=>match zaj l with
  | .error f=>.error f
  | .ok (x,_)=>if pkW x=k then .ok (([],s),l) else match zai 40 l with
   | .error f=>.error f
   | .ok (_,l1)=>match rd s l1 with
    | .error f=>.error f
    | .ok ((v,s1),l2)=>match zaK k rd n s1 l2 with
     | .error f=>.error f
     | .ok ((vs,s2),l3)=>.ok ((v :: vs,s2),l3)
def zde(n:Int):Int:=if n < -1000000∨1000000<n then 0 else n
def pRef(l:List Wd):Px Int:=andP (zai 48 l) fun x l1=>.ok (zde x.num,l1)
def zd8(s:ES)(l:List Wd):Px (Ac × ES):=andP (zai 41 l) fun _ l2=>.ok ((⟨4,0,mkS [],[]⟩,s),l2)
def zds(s:ES)(l:List Wd):Px (Ac × ES):=andP (pRef l) fun k l1=>andP (zai 41 l1) fun _ l2=>.ok ((⟨2,k,mkS [],[]⟩,s),l2)
def aMod(s:ES)(l:List Wd):Px (Ac × ES):=andP (pRef l) fun k l1=>andP (zaB (zaw 20) 6 s l1) fun p l2=>.ok ((⟨3,k,mkS [],p.1⟩,p.2),l2)
def aAdd(s:ES)(l:List Wd):Px (Ac × ES):=andP (za3 l) fun c l1=>andP (zaB (zaw 20) 6 s l1) fun p l2=>.ok ((⟨1,0,mkS c,p.1⟩,p.2),l2)
def pAct(s:ES)(l:List Wd):Px (Ac × ES):=andP (zai 97 l) fun x l1=>
 if ptW x=zd6 then zd8 s l1 else if ptW x=modT then aMod s l1 else if ptW x=zdV then zds s l1 else if ptW x=addT then aAdd s l1 else .error (3,x.pos)
def zd2:Bs:=[114,117,108,101]
def zbh(l:List Wd):Px Ru:=andP (zai 97 l) fun x l1=>if ptW x=zd2 then
  andP (zai 97 l1) fun nm l2=>andP (zai 48 l2) fun sl l3=>andP (za1 62 pPat 6 l3) fun ps l4=>andP (zai 62 l4) fun _ l5=>
   andP (zaK 41 pAct 8 ([],0) l5) fun q l6=>andP (zai 41 l6) fun _ l7=>.ok (⟨mkS (ptW nm),sl.num,ps,q.2.1,q.1⟩,l7)
 else .error (3,x.pos)
def zcd(l:List Wd):Px (List Ru):=za1 0 zbh 16 l
end Go.Proofs.YtjjjagepnnbebaaGreatDoor
namespace Go.Proofs.YtjjjagepnnbebaaGreatDoor
open Go.RowKit
attribute [local go_sem ↓] Go.wp_at_zero Go.wp_at_succ
theorem zba:(Tryz.prog.info? 95).map (·.size)=some 6:=by kernel_rfl
def Rtm(x:Tm)(e:Ending)(_:World):Prop:=e=.returned (.agg (tmC x).toArray)
theorem zet{P:World->Prop}{w:World}{b o:Nat}{t:TypeId}{cs:Array Value}{v0 E v2:Value}(I:w.heap[b]?=some (.cells cs t (0,0)))(hs:o+3<=cs.size)(h:∀ G,G.heap[b]?=some (.cells (cs.toList.take o ++ ([v0,E,v2] ++ cs.toList.drop (o+3))).toArray t (0,0))->Turned w G b->P G):P (((w.setCell ⟨b,o,none⟩ v0).setCell ⟨b,o+1,none⟩ E).setCell ⟨b,o+2,none⟩ v2):=
 h _ (za0 I (o:=o) [v0,E,v2] (by simp;omega)) (Turned.setCells [v0,E,v2] o w b)
theorem zbc{α β:Type}{x:α}{l:List Wd}{k:α->List Wd->Px β}:andP (.ok (x,l)) k=k x l:=rfl
theorem zmC(w:World)(pb:Nat)(src:Bs)(a:Option Addr)(c:Nat)(l:List Wd)(R:List Value)(h:PSt w pb src a c l R):Calls Tryz.prog 162 #[.pointer (some ⟨pb,0,none⟩)] w (PPost w pb src a c R Rtm (zbM l)):=by
 have aZ:=wfield2;have HP:=hidX h;have a1:=h.lt;clear h;go_enter Tryz.func162,Tryz.ntmps162;go_upto_region 1 with fail
 refine zaf ?_;intro w1 aL aM;have E:=hidX (zbt w1 pb src a c l R 61 (HP.out.below aL));have M1:=hidX (MkO.of_below aL:MkO (some pb) w w1);have aX:w.heap.size<w1.heap.size:=zab aM;have aQ:=hidX aM;clear aL aM
 cases hr:zai 61 l with
 | error f=>
  have HT:Hid (zbM l=.error f):=show _=_ from by unfold zbM;rw[hr];rfl
  rw[hr]at E;go_wp2_with (first | (go_at_call 85;refine E.out.mono ?_;rintro e w2 ⟨ak,rfl⟩;unfold fltE) | fail);exact ⟨rfl,PPost.err HT.out (M1.out.trans ak)⟩
 | ok p=>
  obtain ⟨o,l1⟩:=p;rw[hr]at E;go_upto_region 2 with (first | (go_at_call 85;refine E.out.mono ?_;rintro e w2 ⟨ak,aH,aG⟩;replace aH:e=.returned (pwA o):=aH;subst aH;unfold pwA) | (go_at_call 173;refine (zgd (ptW o) w2 aG.env.tests).mono ?_;rintro e w3 ⟨rfl,rfl⟩) | fail);refine zaf ?_;intro w4 ax aA;obtain ⟨ix,aN⟩:∃ ix:Int,ix=(zaH (ptW o):Int):=⟨_,rfl⟩
  rw[<- aN]at aA;have aU:=hidX aN;have al:=hidX (zfy w4 pb src a c l1 R (aG.below ax));have s2:=ak.rest.size;have s4:w3.heap.size<w4.heap.size:=zab aA;have M4:=hidX ((M1.out.trans ak).trans (MkO.of_below ax));have aR:=hidX aA;have aB:=hidX ((ax.block w.heap.size (by omega)).trans ((ak.block w.heap.size aX (fun e=>by injection e;omega)).trans aQ.out));have az:=hidX hr;clear ax aA ak aG E aQ M1 aN hr
  cases hn:zaj l1 with
  | error f=>
   have HT:Hid (zbM l=.error f):=show _=_ from by unfold zbM;rw[az.out,zbc,hn];rfl
   rw[hn]at al;go_wp2_with (first | (go_at_call 132;refine al.out.mono ?_;rintro e w5 ⟨ag,rfl⟩;unfold fltE) | fail);exact ⟨rfl,PPost.err HT.out (M4.out.trans ag)⟩
  | ok p=>
   obtain ⟨x,l2⟩:=p;rw[hn]at al;go_upto_region 3 with (first | (go_at_call 132;refine al.out.mono ?_;rintro e w5 ⟨ag,aK,aP⟩;replace aK:e=.returned (pwA x):=aK;subst aK;unfold pwA) | fail);refine zaf ?_;intro w6 au aj;obtain ⟨L,X,ay,aJ,aj,y0⟩:=zfk aj;have s5:=ag.rest.size;have s6:w5.heap.size<w6.heap.size:=zab aj;have M6:=hidX ((M4.out.trans ag).trans (MkO.of_below au));have P6:=hidX (aP.below au);have ab:=hidX ((au.block w3.heap.size (by omega)).trans ((ag.block w3.heap.size s4 (fun e=>by injection e;omega)).trans aR.out));have ao:=hidX ((au.block w.heap.size (by omega)).trans ((ag.block w.heap.size (by omega) (fun e=>by injection e;omega)).trans aB.out));have y2:=(zfK ay aj).1;clear au ag aP al aR aB M4;have ap:=hidX ay.out.1;by_cases hk:X=48∨X=97
   ·have HT:Hid (zbM l=andP (zai 41 l2) fun _ l3=>.ok (⟨3,ix,mkS [],wVal (pkW x) x.num (ptW x)⟩,l3)):=show _=_ from by
     unfold zbM;rw[az.out,zbc,hn,zbc,if_pos (by rw[<- ap.out];exact hk),<- aU.out]
    obtain ⟨v,hv⟩:∃ v,v=wVal (pkW x) x.num (ptW x):=⟨_,rfl⟩
    have aT:=hidX (zkh ay);rw[<- hv]at HT aT;have aY:(X==48)=true∨((X==48)=false/\(X==97)=true):=by
     rcases hk with h | h
     ·exact .inl (by simp[h])
     exact .inr ⟨by simp[h],by simp[h]⟩
    clear hk hv hn;rcases aY with e1 | ⟨e1,e2⟩
    rotate_left
    rotate_left
    all_goals
     go_upto_region 10 with (first | (refine zam (by rfl) 131 (.tmp 4) (by rfl) w5.heap.size L (by rfl) 131 (0,0) aj _ Tryz.underlying131 rfl aJ.1 ?_) | (go_at_call 133;refine (aT.out _).mono ?_;intro e w7 aV;obtain ⟨aI,U⟩:=aV;replace aI:e=.returned (.agg #[.int .i64 v.kind,.int .i64 v.num,.string v.sym]):=aI;subst aI;have ad:=(U.block w3.heap.size (by omega)).trans ab.out;have d3:=zae (L:=[_,_,_,_,_,_]) ad (j:=3) rfl;have d4:=zae (L:=[_,_,_,_,_,_]) ad (j:=4) rfl;have d5:=zae (L:=[_,_,_,_,_,_]) ad (j:=5) rfl;have f3:=zax ad 3;have f4:=zax ad 4;have f5:=zax ad 5) | fail);have M7:=hidX (M6.out.trans (MkO.of_below U));have P7:=hidX (P6.out.below U);have s7:=U.size;have ae:=hidX ((U.block w.heap.size (by omega)).trans ao.out);refine zet ad (by simp) ?_;intro w8 O I;replace O:w8.heap[w3.heap.size]?=some (.cells (tmC ⟨3,ix,mkS [],v⟩).toArray 95 (0,0)):=O;clear d3 d4 d5 f3 f4 f5 ad U y0 y2;have aF:=hidX O;have M8:=hidX (M7.out.turn I (by omega));have P8:=hidX (P7.out.turned I (by omega));have s8:=I.size;have aW:w7.heap.size<=w8.heap.size:=Nat.le_of_eq s8.symm;have aq:=hidX ((I.block w.heap.size (by omega)).trans ae.out);have E:=hidX (zbt w8 pb src a c l2 R 41 P8.out);clear O I s8 ae P7 M7
     cases hc:zai 41 l2 with
     | error f=>
      have ah:Hid (zbM l=.error f):=show _=_ from by rw[HT.out,hc];rfl
      rw[hc]at E;clear hc;go_wp2_with (first | (go_at_call 85;refine E.out.mono ?_;rintro e w9 ⟨G,rfl⟩;unfold fltE) | fail);exact ⟨rfl,PPost.err ah.out (M8.out.trans G)⟩
     | ok q=>
      obtain ⟨y,l3⟩:=q;have ah:Hid (zbM l=.ok (⟨3,ix,mkS [],v⟩,l3)):=show _=_ from by rw[HT.out,hc];rfl
      rw[hc]at E;clear hc;go_upto_region 11 with (first | (go_at_call 85;refine E.out.mono ?_;rintro e w9 ⟨G,af,aw⟩;replace af:e=.returned (pwA y):=af;subst af;unfold pwA) | fail);have s9:=G.rest.size;have aD:=(G.block w3.heap.size (by omega) (fun e=>by injection e;omega)).trans aF.out;have aC:=(G.block w.heap.size (by omega) (fun e=>by injection e;omega)).trans aq.out;have M9:=hidX (M8.out.trans G);have P9:=hidX aw;clear G aw E;go_wp2_with (first | (refine zam (by rfl) 95 (.tmp 3) (by rfl) w3.heap.size (tmC ⟨3,ix,mkS [],v⟩) (by rfl) 95 (0,0) aD _ Tryz.underlying95 rfl zba ?_) | (refine zac (by rfl) 95 (.tmp 2) (.tmp 32) (by rfl) w.heap.size (tmC ⟨3,ix,mkS [],v⟩) (by rfl) (by rfl) _ 95 aC (by rfl) zba (zca _) ?_;intro aO ar Z) | fail);have aE:=run_loadVar_mid (P:=Tryz.prog) aO w.heap.size 0 95 (tmC ⟨3,ix,mkS [],v⟩) _ (zal ar.out) Tryz.underlying95 rfl zba;(try go_frame);exact bodyPost_ret (v:=.agg (tmC ⟨3,ix,mkS [],v⟩).toArray) (by simp[results,Tryz.results162,asAddr,aE]) rfl (PPost.good ah.out (M9.out.turn Z.out (Nat.le_refl _)) rfl (P9.out.turned Z.out (by omega)))
   have HK:=hidX hk;by_cases h63:X=63
   ·have HT:Hid (zbM l=andP (zai 41 l2) fun _ l3=>.ok (⟨3,ix,mkS (ptW x),zVr⟩,l3)):=show _=_ from by
     unfold zbM;rw[az.out,zbc,hn,zbc,if_neg (by rw[<- ap.out];exact hk),if_pos (by rw[<- ap.out];exact h63),<- aU.out]
    have e1:(X==48)=false:=by simp;omega
    have e2:(X==97)=false:=by simp;omega
    have e3:(X==63)=true:=by simp[h63]
    have b2:=zae (L:=[_,_,_,_,_,_]) ab.out (j:=2) rfl;have f2:=zax ab.out 2;clear hk h63 hn;go_upto_region 10 with (first | (refine zam (by rfl) 131 (.tmp 4) (by rfl) w5.heap.size L (by rfl) 131 (0,0) aj _ Tryz.underlying131 rfl aJ.1 ?_) | fail);obtain ⟨w7,aS⟩:∃ w7,w7=w6:=⟨_,rfl⟩
    rw[<- aS]at M6 P6 ao ab ⊢;have M7:=hidX M6.out;have P7:=hidX P6.out;have ae:=hidX ao.out;have s7:w6.heap.size<=w7.heap.size:=by rw[aS];exact Nat.le_refl _
    refine zau ab.out ?_;intro w8 O I;replace O:w8.heap[w3.heap.size]?=some (.cells (tmC ⟨3,ix,mkS (ptW x),zVr⟩).toArray 95 (0,0)):=O;clear b2 f2 y0 y2;have aF:=hidX O;have M8:=hidX (M7.out.turn I (by omega));have P8:=hidX (P7.out.turned I (by omega));have s8:=I.size;have aW:w7.heap.size<=w8.heap.size:=Nat.le_of_eq s8.symm;have aq:=hidX ((I.block w.heap.size (by omega)).trans ae.out);have E:=hidX (zbt w8 pb src a c l2 R 41 P8.out);clear O I s8 ae P7 M7
    cases hc:zai 41 l2 with
    | error f=>
     have ah:Hid (zbM l=.error f):=show _=_ from by rw[HT.out,hc];rfl
     rw[hc]at E;clear hc;go_wp2_with (first | (go_at_call 85;refine E.out.mono ?_;rintro e w9 ⟨G,rfl⟩;unfold fltE) | fail);exact ⟨rfl,PPost.err ah.out (M8.out.trans G)⟩
    | ok q=>
     obtain ⟨y,l3⟩:=q;have ah:Hid (zbM l=.ok (⟨3,ix,mkS (ptW x),zVr⟩,l3)):=show _=_ from by rw[HT.out,hc];rfl
     rw[hc]at E;clear hc;go_upto_region 11 with (first | (go_at_call 85;refine E.out.mono ?_;rintro e w9 ⟨G,af,aw⟩;replace af:e=.returned (pwA y):=af;subst af;unfold pwA) | fail);have s9:=G.rest.size;have aD:=(G.block w3.heap.size (by omega) (fun e=>by injection e;omega)).trans aF.out;have aC:=(G.block w.heap.size (by omega) (fun e=>by injection e;omega)).trans aq.out;have M9:=hidX (M8.out.trans G);have P9:=hidX aw;clear G aw E;go_wp2_with (first | (refine zam (by rfl) 95 (.tmp 3) (by rfl) w3.heap.size (tmC ⟨3,ix,mkS (ptW x),zVr⟩) (by rfl) 95 (0,0) aD _ Tryz.underlying95 rfl zba ?_) | (refine zac (by rfl) 95 (.tmp 2) (.tmp 32) (by rfl) w.heap.size (tmC ⟨3,ix,mkS (ptW x),zVr⟩) (by rfl) (by rfl) _ 95 aC (by rfl) zba (zca _) ?_;intro aO ar Z) | fail);have aE:=run_loadVar_mid (P:=Tryz.prog) aO w.heap.size 0 95 (tmC ⟨3,ix,mkS (ptW x),zVr⟩) _ (zal ar.out) Tryz.underlying95 rfl zba;(try go_frame);exact bodyPost_ret (v:=.agg (tmC ⟨3,ix,mkS (ptW x),zVr⟩).toArray) (by simp[results,Tryz.results162,asAddr,aE]) rfl (PPost.good ah.out (M9.out.turn Z.out (Nat.le_refl _)) rfl (P9.out.turned Z.out (by omega)))
   have HT:Hid (zbM l=.error (3,x.pos)):=show _=_ from by
    unfold zbM;rw[az.out,zbc,hn,zbc,if_neg (by rw[<- ap.out];exact hk),if_neg (by rw[<- ap.out];exact h63)]
   have e1:(X==48)=false:=by simp;omega
   have e2:(X==97)=false:=by simp;omega
   have e3:(X==63)=false:=by simp[h63]
   clear hk h63 hn;go_wp2_with (first | (refine zam (by rfl) 131 (.tmp 4) (by rfl) w5.heap.size L (by rfl) 131 (0,0) aj _ Tryz.underlying131 rfl aJ.1 ?_) | (go_at_call 93;refine (zdH ay 3 _).mono ?_;rintro e w7 ⟨rfl,U⟩) | fail);exact ⟨rfl,PPost.err HT.out (M6.out.trans (MkO.of_below U))⟩
theorem zn3(w:World)(pb:Nat)(src:Bs)(a:Option Addr)(c:Nat)(l:List Wd)(R:List Value)(h:PSt w pb src a c l R):Calls Tryz.prog 138 #[.pointer (some ⟨pb,0,none⟩)] w (PPost w pb src a c R Rtm (zaX l)):=by
 have HP:=hidX h;have aG:=h.lt;clear h;go_enter Tryz.func138,Tryz.ntmps138;go_upto_region 1 with fail
 refine zaf ?_;intro w1 au ax;have ae:=hidX (zfy w1 pb src a c l R (HP.out.below au));have M1:=hidX (MkO.of_below au:MkO (some pb) w w1);have aD:w.heap.size<w1.heap.size:=zab ax;have az:=hidX ax;clear au ax
 cases hn:zaj l with
 | error f=>
  have HT:Hid (zaX l=.error f):=show _=_ from by unfold zaX;rw[hn];rfl
  rw[hn]at ae;go_wp2_with (first | (go_at_call 132;refine ae.out.mono ?_;rintro e w2 ⟨Z,rfl⟩;unfold fltE) | fail);exact ⟨rfl,PPost.err HT.out (M1.out.trans Z)⟩
 | ok p=>
  obtain ⟨x,l1⟩:=p;rw[hn]at ae;go_upto_region 2 with (first | (go_at_call 132;refine ae.out.mono ?_;rintro e w2 ⟨Z,ap,ay⟩;replace ap:e=.returned (pwA x):=ap;subst ap;unfold pwA) | fail);refine zaf ?_;intro w3 al ab;obtain ⟨L,X,aj,aA,ab,y0⟩:=zfk ab;have s2:=Z.rest.size;have s3:w2.heap.size<w3.heap.size:=zab ab;have M3:=hidX ((M1.out.trans Z).trans (MkO.of_below al));have P3:=hidX (ay.below al);have ak:=(al.block w.heap.size (by omega)).trans ((Z.block w.heap.size aD (fun e=>by injection e;omega)).trans az.out);have y2:=(zfK aj ab).1;have E:=hidX aj.out.1;have HN:Hid (∀ k:Wd->List Wd->Px Tm,andP (zaj l) k=k x l1):=show ∀ k:Wd->List Wd->Px Tm,_ from fun k=>by rw[hn];rfl
  clear al Z ay ae az M1 hn;by_cases G:X=95
  ·have HT:Hid (zaX l=.ok (⟨0,0,mkS [],zVr⟩,l1)):=show _=_ from by unfold zaX;rw[HN.out,<- E.out,if_pos G]
   have e1:(X==95)=true:=by simp[G]
   clear G;go_wp2_with (first | (refine zac (by rfl) 95 (.tmp 2) (.tmp 12) (by rfl) w.heap.size (tmC ⟨0,0,mkS [],zVr⟩) (by rfl) (by rfl) _ 95 ak (by rfl) zba (zca _) ?_;intro w4 I ah) | fail);have O:=run_loadVar_mid (P:=Tryz.prog) w4 w.heap.size 0 95 (tmC ⟨0,0,mkS [],zVr⟩) _ (zal I.out) Tryz.underlying95 rfl zba;(try go_frame);exact bodyPost_ret (v:=.agg (tmC ⟨0,0,mkS [],zVr⟩).toArray) (by simp[results,Tryz.results138,asAddr,O]) rfl (PPost.good HT.out (M3.out.turn ah.out (Nat.le_refl _)) rfl (P3.out.turned ah.out (by omega)))
  have e0:(X==95)=false:=by simp[G]
  by_cases hk:X=48∨X=97
  ·have HT:Hid (zaX l=.ok (⟨1,0,mkS [],wVal (pkW x) x.num (ptW x)⟩,l1)):=show _=_ from by
    unfold zaX;rw[HN.out,if_neg (by rw[<- E.out];exact G),if_pos (by rw[<- E.out];exact hk)]
   obtain ⟨v,hv⟩:∃ v,v=wVal (pkW x) x.num (ptW x):=⟨_,rfl⟩
   have aB:=hidX (zkh aj);rw[<- hv]at HT aB;have aF:(X==48)=true∨((X==48)=false/\(X==97)=true):=by
    rcases hk with h | h
    ·exact .inl (by simp[h])
    exact .inr ⟨by simp[h],by simp[h]⟩
   clear hk hv G;rcases aF with e1 | ⟨e1,e2⟩
   all_goals
    go_wp2_with (first | (refine zam (by rfl) 131 (.tmp 3) (by rfl) w2.heap.size L (by rfl) 131 (0,0) ab _ Tryz.underlying131 rfl aA.1 ?_) | (go_at_call 133;refine (aB.out _).mono ?_;intro e w4 aC;obtain ⟨U,I⟩:=aC;replace U:e=.returned (.agg #[.int .i64 v.kind,.int .i64 v.num,.string v.sym]):=U;subst U;have ar:=(I.block w.heap.size (by omega)).trans ak) | (refine zac (by rfl) 95 (.tmp 2) (.tmp 18) (by rfl) w.heap.size (tmC ⟨1,0,mkS [],v⟩) (by rfl) (by rfl) _ 95 ar (by rfl) zba (zca _) ?_;intro w5 aq af) | fail);have O:=run_loadVar_mid (P:=Tryz.prog) w5 w.heap.size 0 95 (tmC ⟨1,0,mkS [],v⟩) _ (zal aq.out) Tryz.underlying95 rfl zba;(try go_frame);exact bodyPost_ret (v:=.agg (tmC ⟨1,0,mkS [],v⟩).toArray) (by simp[results,Tryz.results138,asAddr,O]) rfl (PPost.good HT.out ((M3.out.trans (MkO.of_below I)).turn af.out (Nat.le_refl _)) rfl ((P3.out.below I).turned af.out (by omega)))
  have e1:(X==48)=false:=by simp;omega
  have e2:(X==97)=false:=by simp;omega
  by_cases h63:X=63
  ·have HT:Hid (zaX l=.ok (⟨2,0,mkS (ptW x),zVr⟩,l1)):=show _=_ from by
    unfold zaX;rw[HN.out,if_neg (by rw[<- E.out];exact G),if_neg (by rw[<- E.out];exact hk),if_pos (by rw[<- E.out];exact h63)]
   have e3:(X==63)=true:=by simp[h63]
   clear hk G h63;go_wp2_with (first | (refine zac (by rfl) 95 (.tmp 2) (.tmp 23) (by rfl) w.heap.size (tmC ⟨2,0,mkS (ptW x),zVr⟩) (by rfl) (by rfl) _ 95 ak (by rfl) zba (zca _) ?_;intro w4 I ah) | fail);have O:=run_loadVar_mid (P:=Tryz.prog) w4 w.heap.size 0 95 (tmC ⟨2,0,mkS (ptW x),zVr⟩) _ (zal I.out) Tryz.underlying95 rfl zba;(try go_frame);exact bodyPost_ret (v:=.agg (tmC ⟨2,0,mkS (ptW x),zVr⟩).toArray) (by simp[results,Tryz.results138,asAddr,O]) rfl (PPost.good HT.out (M3.out.turn ah.out (Nat.le_refl _)) rfl (P3.out.turned ah.out (by omega)))
  have e3:(X==63)=false:=by simp[h63]
  by_cases ad:X=40
  ·have HT:Hid (zaX l=zbM l1):=show _=_ from by
    unfold zaX;rw[HN.out,if_neg (by rw[<- E.out];exact G),if_neg (by rw[<- E.out];exact hk),if_neg (by rw[<- E.out];exact h63),if_pos (by rw[<- E.out];exact ad)]
   have e4:(X==40)=true:=by simp[ad]
   have ao:=hidX (zmC w3 pb src a c l1 R P3.out);clear hk G h63 ad
   cases hc:zbM l1 with
   | error f=>
    have aw:Hid (zaX l=.error f):=show _=_ from by rw[HT.out,hc]
    rw[hc]at ao;go_wp2_with (first | (go_at_call 162;refine ao.out.mono ?_;rintro e w4 ⟨ag,rfl⟩;unfold fltE) | fail);exact ⟨rfl,PPost.err aw.out (M3.out.trans ag)⟩
   | ok q=>
    obtain ⟨tm,l2⟩:=q;have aw:Hid (zaX l=.ok (tm,l2)):=show _=_ from by rw[HT.out,hc]
    rw[hc]at ao;go_wp2_with (first | (go_at_call 162;refine ao.out.mono ?_;rintro e w4 ⟨ag,U,aE⟩;replace U:e=.returned (.agg (tmC tm).toArray):=U;subst U;have s4:=ag.rest.size;have ar:=(ag.block w.heap.size (by omega) (fun e=>by injection e;omega)).trans ak) | (refine zac (by rfl) 95 (.tmp 2) (.tmp 27) (by rfl) w.heap.size (tmC tm) (by rfl) (by rfl) _ 95 ar (by rfl) zba (zca _) ?_;intro w5 aq af) | fail);have O:=run_loadVar_mid (P:=Tryz.prog) w5 w.heap.size 0 95 (tmC tm) _ (zal aq.out) Tryz.underlying95 rfl zba;(try go_frame);exact bodyPost_ret (v:=.agg (tmC tm).toArray) (by simp[results,Tryz.results138,asAddr,O]) rfl (PPost.good aw.out ((M3.out.trans ag).turn af.out (Nat.le_refl _)) rfl (aE.turned af.out (by omega)))
  have HT:Hid (zaX l=.error (3,x.pos)):=show _=_ from by
   unfold zaX;rw[HN.out,if_neg (by rw[<- E.out];exact G),if_neg (by rw[<- E.out];exact hk),if_neg (by rw[<- E.out];exact h63),if_neg (by rw[<- E.out];exact ad)]
  have e4:(X==40)=false:=by simp[ad]
  clear hk G h63 ad;go_wp2_with (first | (refine zam (by rfl) 131 (.tmp 3) (by rfl) w2.heap.size L (by rfl) 131 (0,0) ab _ Tryz.underlying131 rfl aA.1 ?_) | (go_at_call 93;refine (zdH aj 3 _).mono ?_;rintro e w4 ⟨rfl,I⟩) | fail);exact ⟨rfl,PPost.err HT.out (M3.out.trans (MkO.of_below I))⟩
end Go.Proofs.YtjjjagepnnbebaaGreatDoor
namespace Go.Proofs.YtjjjagepnnbebaaGreatDoor
def pOp(f:Nat)(s:ES)(l:List Wd):Px (Ex × ES):=andP (zai 43 l) fun o l1=>andP (zaw f s l1) fun p l2=>andP (zaw f p.2 l2) fun q l3=>andP (zai 41 l3) fun _ l4=>.ok ((⟨2,(((ptW o).headD 0).toNat:Int),mkS [],zVr,p.1,q.1⟩,q.2),l4)
theorem zdc{f:Nat}{s:ES}{l:List Wd}{e:Flt}(h:zaW (s.2:Int) 60 l=.error e):zaw f s l=.error e:=by
 unfold zaw;rw[h]
theorem zdC{f:Nat}{s:ES}{l:List Wd}{u:Unit × List Wd}{e:Flt}(hb:zaW (s.2:Int) 60 l=.ok u)(h:zaj l=.error e):zaw f s l=.error e:=by
 unfold zaw;rw[hb,h]
theorem zcw{f:Nat}{s:ES}{l l1:List Wd}{u:Unit × List Wd}{x:Wd}(hb:zaW (s.2:Int) 60 l=.ok u)(h:zaj l=.ok (x,l1))(hk:pkW x=48∨pkW x=97):zaw f s l=.ok (((s.1.length:Int),(s.1 ++ [⟨0,0,mkS [],wVal (pkW x) x.num (ptW x),0,0⟩],s.2+1)),l1):=by
 unfold zaw;rw[hb,h];simp only;rw[if_pos hk]
theorem zdF{f:Nat}{s:ES}{l l1:List Wd}{u:Unit × List Wd}{x:Wd}(hb:zaW (s.2:Int) 60 l=.ok u)(h:zaj l=.ok (x,l1))(hk:pkW x=63):zaw f s l=.ok (((s.1.length:Int),(s.1 ++ [⟨1,0,mkS (ptW x),zVr,0,0⟩],s.2+1)),l1):=by
 unfold zaw;rw[hb,h];simp only;rw[if_neg (by omega),if_pos hk]
theorem zex{s:ES}{l l1:List Wd}{u:Unit × List Wd}{x:Wd}(hb:zaW (s.2:Int) 60 l=.ok u)(h:zaj l=.ok (x,l1))(hk:pkW x=40):zaw 0 s l=.error (4,x.pos):=by
 unfold zaw;rw[hb,h];simp only;rw[if_neg (by omega),if_neg (by omega),if_pos hk]
theorem zfh{f:Nat}{s:ES}{l l1:List Wd}{u:Unit × List Wd}{x:Wd}(hb:zaW (s.2:Int) 60 l=.ok u)(h:zaj l=.ok (x,l1))(hk:pkW x=40):zaw (f+1) s l=andP (pOp f (s.1,s.2+1) l1) fun q l5=>.ok (((q.2.1.length:Int),(q.2.1 ++ [q.1],q.2.2)),l5):=by
 rw[zaw.eq_def];simp only[hb,h];rw[if_neg (by omega),if_neg (by omega),if_pos hk];unfold pOp
 cases zai 43 l1 with
 | error e=>rfl
 | ok q=>
  obtain ⟨o,l2⟩:=q;simp only[andP]
  cases zaw f (s.1,s.2+1) l2 with
  | error e=>rfl
  | ok q=>
   obtain ⟨⟨i,s1⟩,l3⟩:=q;simp only
   cases zaw f s1 l3 with
   | error e=>rfl
   | ok q=>
    obtain ⟨⟨j,s2⟩,l4⟩:=q;simp only
    cases zai 41 l4 with
    | error e=>rfl
    | ok q=>rfl
theorem zcy{f:Nat}{s:ES}{l l1:List Wd}{u:Unit × List Wd}{x:Wd}(hb:zaW (s.2:Int) 60 l=.ok u)(h:zaj l=.ok (x,l1))(h1:¬ (pkW x=48∨pkW x=97))(h2:pkW x≠63)(h3:pkW x≠40):zaw f s l=.error (3,x.pos):=by
 cases f <;> (unfold zaw;rw[hb,h];simp only;rw[if_neg h1,if_neg h2,if_neg h3])
theorem zdh{n:Nat}{l l1:List Wd}{u:Unit × List Wd}{x:Wd}(hb:zaW (n:Int) 60 l=.ok u)(h:zaj l=.ok (x,l1))(E:pkW x≠41)(I:pkW x≠0):n<60:=by
 unfold zaW at hb;rw[h]at hb;simp only at hb;split at hb
 ·cases hb
 rename_i G;apply Classical.byContradiction;intro O;exact G ⟨by omega,E,I⟩
theorem zlU{n:Int}{l:List Wd}{u:Unit × List Wd}(hb:zaW n 60 l=.ok u):u=((),l):=by
 unfold zaW at hb
 cases hr:zaj l with
 | error f=>rw[hr]at hb;cases hb
 | ok q=>
  rw[hr]at hb;simp only at hb;split at hb
  ·cases hb
  injection hb with hb;exact hb.symm
theorem zc3:∀ (f:Nat) (s:ES) (l l':List Wd) (k:Nat) (i:Int) (s':ES),s.1.length+k<=s.2->s.2<=60->zaw f s l=.ok ((i,s'),l')->s'.1.length+k<=s'.2/\s'.2<=60:=by
 intro f
 induction f with
 | zero=>
  intro s l l' k i s' h1 h2 h
  cases hb:zaW (s.2:Int) 60 l with
  | error e=>rw[zdc hb]at h;cases h
  | ok u=>
   cases hn:zaj l with
   | error e=>rw[zdC hb hn]at h;cases h
   | ok q=>
    obtain ⟨x,l1⟩:=q;by_cases hk:pkW x=48∨pkW x=97
    ·have G:=zdh hb hn (by omega) (by omega);rw[zcw hb hn hk]at h;injection h with h;injection h with h _;injection h with _ h;subst h;simp;omega
    ·by_cases h63:pkW x=63
     ·have G:=zdh hb hn (by omega) (by omega);rw[zdF hb hn h63]at h;injection h with h;injection h with h _;injection h with _ h;subst h;simp;omega
     ·by_cases E:pkW x=40
      ·rw[zex hb hn E]at h
       cases h
      ·rw[zcy hb hn hk h63 E]at h
       cases h
 | succ f O=>
  intro s l l' k i s' h1 h2 h
  cases hb:zaW (s.2:Int) 60 l with
  | error e=>rw[zdc hb]at h;cases h
  | ok u=>
   cases hn:zaj l with
   | error e=>rw[zdC hb hn]at h;cases h
   | ok q=>
    obtain ⟨x,l1⟩:=q;by_cases hk:pkW x=48∨pkW x=97
    ·have G:=zdh hb hn (by omega) (by omega);rw[zcw hb hn hk]at h;injection h with h;injection h with h _;injection h with _ h;subst h;simp;omega
    by_cases h63:pkW x=63
    ·have G:=zdh hb hn (by omega) (by omega);rw[zdF hb hn h63]at h;injection h with h;injection h with h _;injection h with _ h;subst h;simp;omega
    by_cases E:pkW x=40
    ·have G:=zdh hb hn (by omega) (by omega);rw[zfh hb hn E]at h;unfold pOp at h
     cases ht:zai 43 l1 with
     | error e=>rw[ht]at h;cases h
     | ok q=>
      obtain ⟨o,l2⟩:=q;rw[ht]at h;simp only[andP]at h
      cases he:zaw f (s.1,s.2+1) l2 with
      | error e=>rw[he]at h;cases h
      | ok q=>
       obtain ⟨⟨i1,s1⟩,l3⟩:=q;rw[he]at h;simp only at h;obtain ⟨j1,j2⟩:=O (s.1,s.2+1) l2 l3 (k+1) i1 s1 (by simp;omega) (by simp;omega) he
       cases I:zaw f s1 l3 with
       | error e=>rw[I]at h;cases h
       | ok q=>
        obtain ⟨⟨i2,s2⟩,l4⟩:=q;rw[I]at h;simp only at h;obtain ⟨j3,X⟩:=O s1 l3 l4 (k+1) i2 s2 j1 j2 I
        cases U:zai 41 l4 with
        | error e=>rw[U]at h;cases h
        | ok q=>
         rw[U]at h;simp only at h;injection h with h;injection h with h _;injection h with _ h;subst h;simp;omega
    rw[zcy hb hn hk h63 E]at h
    cases h
end Go.Proofs.YtjjjagepnnbebaaGreatDoor
