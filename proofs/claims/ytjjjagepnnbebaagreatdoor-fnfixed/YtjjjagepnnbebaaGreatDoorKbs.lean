/-
  OUR OWN TEXT. Pt11, Pt12, Rt4, Rra, LawPp, one behind the other.
-/
import Derived.Test.YtjjjagepnnbebaaGreatDoorSx25m
import Derived.Test.YtjjjagepnnbebaaGreatDoorKbl
import Derived.Test.YtjjjagepnnbebaaGreatDoorKbj
import Derived.Test.YtjjjagepnnbebaaGreatDoorKbn
import Derived.Test.YtjjjagepnnbebaaGreatDoorKal
import Derived.Test.YtjjjagepnnbebaaGreatDoorKau
import Derived.Test.YtjjjagepnnbebaaGreatDoorKas
import Derived.Test.YtjjjagepnnbebaaGreatDoorKaq
set_option maxHeartbeats 3200000
set_option maxRecDepth 100000
namespace Go.Proofs.YtjjjagepnnbebaaGreatDoor
open Go.RowKit
attribute [local go_sem ↓] Go.wp_at_zero Go.wp_at_succ
theorem zjj(w:World)(pb:Nat)(src:Bs)(a:Option Addr)(c:Nat)(h:w.cell? ⟨pb,0,none⟩=some (.slice a src.length c))(hE:ErrT w)(ae:0<pb)(r:Except Flt Unit)(Q:World->World->Prop)
  (ag:src.length<=20000->∀ u,Below w.heap.size w u->Calls Tryz.prog 17 #[.pointer (some ⟨pb,0,none⟩)] u fun e w'=>MkO (some pb) u w'/\match r with | .error f=>e=fltE f | .ok _=>e=.returned (.tuple #[])/\Q u w') :
  Calls Tryz.prog 16 #[.pointer (some ⟨pb,0,none⟩),.func (.func 17) #[.pointer (some ⟨pb,0,none⟩)] #[]] w (zh2 w pb src.length r Q):=by
 have au:∀ (fn:Fn) (first cap:Array Value) (w:World),(Instr.makeFunc fn first cap).run Tryz.prog w=.ok (.func fn first cap) w:=fun _ _ _ _=>rfl;have ar:=World.block_lt_of_cell? w ⟨pb,0,none⟩ h;have HE:=hidX hE;have O:=hidX ag;clear hE ag
 go_enter_defers Tryz.func16,Tryz.ntmps16
 go_upto_region 2 with fail
 refine zaf ?_;intro w1 U Z;have ad:w.heap.size<w1.heap.size:=zab Z;have c0:=zaa U h;have M1:=hidX (MkO.of_below U:MkO (some pb) w w1);have aj:=hidX U;have ab:=hidX Z;have E1:=hidX (HE.out.mko M1.out ae);clear U Z h;by_cases hl:20000<src.length
 ·have ao:(20000:Int)<(src.length:Int):=by omega
  have HL:=hidX hl;clear hl;go_wp2_with fail
  refine leaves_cons (f:=44) (args:=#[.pointer (some ⟨w.heap.size,0,none⟩)]) (by simp) (by simp[go_sem]) ?_;refine (zjo (4,0) w.heap.size _ w1 E1.out ab.out rfl []).mono ?_;rintro e u' w2 ⟨rfl,rfl,G,E⟩;have I:=run_loadVar_mid (P:=Tryz.prog) w2 w.heap.size 0 48 [.int .i64 4,.int .i64 ((0:Nat):Int)] _ (zal G) Tryz.underlying48 rfl ziO;have hP:zh2 w pb src.length r Q (.returned (.agg #[.int .i64 4,.int .i64 ((0:Nat):Int)])) w2:=by
   refine ⟨?_,?_⟩
   ·exact ⟨(M1.out.rest).trans E.rest,fun g hg X=>(E.block g (by omega) (fun e=>by injection e;omega)).trans (M1.out.block g hg X)⟩
   rw[if_pos HL.out]
  simp[Leaves,settle,results,Tryz.results16,asAddr,I];exact hP
 have ao:¬ (20000:Int)<(src.length:Int):=by omega
 have HL:=hidX hl;replace O:=hidX (O.out (by omega) w1 aj.out)
 cases r with
 | error f=>
  clear hl;go_wp2_with (first | (go_at_call 17;refine O.out.mono ?_;rintro e w2 ⟨E,rfl⟩;unfold fltE) | fail);have G:=(E.block w.heap.size ad (fun e=>by injection e;omega)).trans ab.out;refine leaves_cons (f:=44) (args:=#[.pointer (some ⟨w.heap.size,0,none⟩)]) (by simp) (by simp[go_sem]) ?_;refine (zjo f w.heap.size _ w2 (E1.out.mko E ae) G rfl []).mono ?_;rintro e u' w3 ⟨rfl,rfl,al,ah⟩;have I:=run_loadVar_mid (P:=Tryz.prog) w3 w.heap.size 0 48 [.int .i64 f.1,.int .i64 (f.2:Int)] _ (zal al) Tryz.underlying48 rfl ziO;have aq:=E.rest.size;have hP:zh2 w pb src.length (.error f) Q (.returned (.agg #[.int .i64 f.1,.int .i64 (f.2:Int)])) w3:=by
   refine ⟨?_,?_⟩
   ·have M2:=M1.out.trans E;exact ⟨M2.rest.trans ah.rest,fun g hg X=>(ah.block g (by omega) (fun e=>by injection e;omega)).trans (M2.block g hg X)⟩
   rw[if_neg HL.out]
  simp[Leaves,settle,results,Tryz.results16,asAddr,I];exact hP
 | ok u=>
  clear hl;go_wp2_with (first | (go_at_call 17;refine O.out.mono ?_;rintro e w2 ⟨E,rfl,ak⟩;have G:=(E.block w.heap.size ad (fun e=>by injection e;omega)).trans ab.out;have HQ:=hidX ak;clear ak) | (refine zac (by rfl) 48 (.tmp 4) (.tmp 17) (by rfl) w.heap.size [.int .i64 0,.int .i64 0] (by rfl) (by rfl) _ 48 G (by rfl) ziO (by simp[Value.oneCell']) ?_;intro w3 ap af) | fail);refine leaves_cons (f:=44) (args:=#[.pointer (some ⟨w.heap.size,0,none⟩)]) (by simp) (by simp[go_sem]) ?_;refine (zo7 w.heap.size w3).mono ?_;rintro e u' w4 ⟨rfl,rfl,rfl⟩;have I:=run_loadVar_mid (P:=Tryz.prog) w4 w.heap.size 0 48 [.int .i64 0,.int .i64 0] _ (zal ap.out) Tryz.underlying48 rfl ziO;have hP:zh2 w pb src.length (.ok u) Q (.returned (.agg #[.int .i64 0,.int .i64 0])) w4:=by
   refine ⟨(M1.out.trans E).turn af.out (Nat.le_refl _),?_⟩;rw[if_neg HL.out];exact ⟨rfl,w1,w2,aj.out,ad,HQ.out,⟨_,G⟩,af.out⟩
  refine ⟨.agg #[.int .i64 0,.int .i64 0],?_,hP⟩;simp[results,Tryz.results16,asAddr,I,Act.put]
theorem zfC:(Tryz.prog.info? 27).map (·.size)=some 3:=by kernel_rfl
def zlv(w:World)(r:Px (List Ru))(e:Ending)(w':World):Prop:=Below w.heap.size w w'/\∃ (code:Int) (pos:Nat) (la:Option Addr) (lc:Nat) (M:List RX),e=.returned (.agg (csL code pos (.slice la M.length lc)).toArray)/\RRow w' w.heap.size la lc M/\match r with
 | .error f=>code=f.1/\pos=f.2/\M=[]
 | .ok (vs,_)=>code=0/\pos=0/\M.map RX.ru=vs
theorem RRow.base{w:World}{B E:Nat}{a:Option Addr}{c:Nat}{M:List RX}(h:RRow w B a c M)(hb:E<=B):RRow w E a c M:=⟨zaO h.row hb,fun x hx=>(h.all x hx).base hb,h.pair⟩
theorem RRow.turned{w w':World}{B b:Nat}{a:Option Addr}{c:Nat}{M:List RX}{cs:Array Value}{t:TypeId}(h:RRow w B a c M)(ht:Turned w w' b)(hb:w.heap[b]?=some (.cells cs t (0,0)))(O:39≠t)(h1:78≠t)(h2:95≠t)(h3:97≠t)(E:73≠t)(I:3≠t):RRow w' B a c M:=
 ⟨zar h.row (fun g hg=>ht.block g (fun e=>by
  obtain ⟨G,e1⟩:=zaA h.row hg
  subst e
  exact zg5 e1 hb O)),fun x hx=>⟨(h.all x hx).pts.turned ht hb h1 h2,zar (h.all x hx).exs (fun g hg=>ht.block g (fun e=>by
  obtain ⟨G,e1⟩:=zaA (h.all x hx).exs hg
  subst e
  exact zg5 e1 hb h3)),(h.all x hx).acs.turned ht hb E I,(h.all x hx).mp,(h.all x hx).ma⟩,h.pair⟩
def SrcQ(pb:Nat)(src:Bs)(a:Option Addr)(c:Nat)(am cm lv:Value)(vs:List Ru)(u w':World):Prop:=∃ la lc M ev bv l,M.map RX.ru=vs/\RRow w' u.heap.size la lc M/\PSt w' pb src a c l (RL am cm (.slice la M.length lc) lv ev bv)
theorem zem(src:Bs)(a:Option Addr)(c:Nat)(w:World)(hv:zbZ w a src)(aw:src.length<=c)(ah:∀ b o,a=some ⟨b,o,none⟩->b<w.heap.size)(hE:zfl w w.heap.size)(hT:ErrT w):Calls Tryz.prog 7 #[.slice a src.length c] w (zlv w (prR src)):=by
 have aR:∀ (fn:Fn) (first cap:Array Value) (w:World),(Instr.makeFunc fn first cap).run Tryz.prog w=.ok (.func fn first cap) w:=fun _ _ _ _=>rfl;have HV:=hidX hv;have HF:=hidX ah;have HE:=hidX hE;have HT:=hidX hT;clear hv ah hE hT;go_enter Tryz.func7,Tryz.ntmps7;go_upto_region 1 with fail
 refine zaf ?_;intro w1 aE aq;have X:w.heap.size<w1.heap.size:=zab aq;have Z:=hidX aE;have aJ:=hidX aq;clear aE aq;go_upto_region 2 with (first | (go_at_call 15;refine (ziB a src.length c w1).mono ?_;rintro e w2 ⟨rfl,ab,am,cm,af,au,aK,aC,aO⟩) | fail);have aH:zfl w1 w1.heap.size:=⟨(HE.out.keep Z.out).err,(HE.out.keep Z.out).tests,Nat.lt_trans HE.out.g1 X,Nat.lt_trans HE.out.g2 X⟩
 have az:ErrT w2:=(World.cell?_of_block (w:=w) (((Z.out.trans (ab.mono (Nat.le_of_lt X))).block 0 (zfb HT.out)))).trans HT.out;have aD:=zae af (j:=0) rfl;have aI:w1.heap.size<w2.heap.size:=zab af;have U:=hidX (zjj w2 w1.heap.size src a c aD az (Nat.lt_trans (zfb HT.out) X) (zn9 (zcd (zbd src))) (SrcQ w1.heap.size src a c (.map (some am)) (.map (some cm)) (.slice none 0 0) (match zcd (zbd src) with | .error _=>[] | .ok (vs,_)=>vs)) (fun hl u hu=>by
  have hr:=zmX.ready af ab (HV.out.below Z.out) aw hl (fun b o e=>Nat.lt_trans (HF.out b o e) X) aH;refine (zmh u w1.heap.size am src a c (zbd src) (.map (some cm)) (.slice none 0 0) (.slice none 0 0) (.int .i64 0) (hr.below hu) (au.below hu) aC).mono ?_;intro e w' hp;obtain ⟨hm,hp⟩:=hp;refine ⟨hm,?_⟩;unfold zn9
  cases hc:zcd (zbd src) with
  | error f=>rw[hc]at hp;exact hp
  | ok q=>
   obtain ⟨vs,l⟩:=q;rw[hc]at hp;obtain ⟨he,la,lc,M,ev,bv,h1,h2,h3⟩:=hp;exact ⟨he,la,lc,M,ev,bv,l,h1,h2,h3⟩))
 have ag:=hidX ((ab.block w.heap.size X).trans aJ.out);have ax:=hidX (Z.out.trans (ab.mono (Nat.le_of_lt X)):Below w.heap.size w w2);clear ab af au aK aC aO aH az aD
 cases hr:(if 20000<src.length then .error (4,0) else zn9 (zcd (zbd src)):Except Flt Unit) with
 | error f=>
  have O:prR src=.error f:=by
   unfold prR;unfold zn9 at hr;split at hr
   ·rw[if_pos (by assumption)];injection hr with hr;rw[hr]
   rw[if_neg (by assumption)]
   cases hc:zcd (zbd src) with
   | error f'=>
    rw[hc]at hr;injection hr with hr;rw[hr]
   | ok q=>rw[hc]at hr;cases hr
  have ao:=hidX O;have aA:=znX O;have aQ:(f.1 != 0)=true:=by simpa using aA
  unfold zh2 at U;rw[hr]at U;clear hr O;go_upto_region 3 with (first | (go_at_call 16;refine U.out.mono ?_;rintro e w3 ⟨G,rfl⟩) | fail);refine zaf ?_;intro w4 E I;have aP:=G.rest.size;have aN:w3.heap.size<w4.heap.size:=zab I;have d0:=zae (L:=[_,_]) I (j:=0) rfl;have d1:=zae (L:=[_,_]) I (j:=1) rfl;have ae:=(E.block w.heap.size (by omega)).trans ((G.block w.heap.size (by omega) (fun e=>by injection e;omega)).trans ag.out);have al:=hidX ((ax.out.trans (G.below (by omega) (fun g e=>by injection e;omega))).trans (E.mono (by omega)):Below w.heap.size w w4);clear E I G U aA;go_wp2_with (first | (refine zac (by rfl) 27 (.tmp 2) (.tmp 18) (by rfl) w.heap.size (csL f.1 f.2 (.slice none 0 0)) (by rfl) (by rfl) _ 27 ae (by rfl) zfC (ziH _ _ _ _ _) ?_;intro w5 ak ad) | fail);have aj:=run_loadVar_mid (P:=Tryz.prog) w5 w.heap.size 0 27 (csL f.1 f.2 (.slice none 0 0)) _ (zal ak.out) Tryz.underlying27 rfl zfC;(try go_frame);refine bodyPost_ret (v:=.agg (csL f.1 f.2 (.slice none 0 0)).toArray) (by simp[results,Tryz.results7,asAddr,aj]) rfl ⟨al.out.trans (ad.out.below (Nat.le_refl _)),f.1,f.2,none,0,[],rfl,RRow.nil _ _,?_⟩;rw[ao.out];exact ⟨rfl,rfl,rfl⟩
 | ok u=>
  have O:∃ vs l,zcd (zbd src)=.ok (vs,l)/\prR src=.ok (vs,l):=by
   unfold prR;unfold zn9 at hr;split at hr
   ·cases hr
   rw[if_neg (by assumption)]
   cases hc:zcd (zbd src) with
   | error f'=>rw[hc]at hr;cases hr
   | ok q=>exact ⟨q.1,q.2,rfl,rfl⟩
  obtain ⟨vs,l,ay,O⟩:=O;have ao:=hidX O;unfold zh2 at U;rw[hr,ay]at U;clear hr O ay;go_upto_region 3 with (first | (go_at_call 16;refine U.out.mono ?_;rintro e w3 ⟨G,rfl,u1,u2,aL,aT,⟨la,lc,M,ev,bv,l',aG,aF,ar⟩,⟨cs,aB⟩,ap⟩) | fail);refine zaf ?_;intro w4 E I;have aP:=G.rest.size;have aN:w3.heap.size<w4.heap.size:=zab I;have d0:=zae (L:=[_,_]) I (j:=0) rfl;have d1:=zae (L:=[_,_]) I (j:=1) rfl;have ae:=(E.block w.heap.size (by omega)).trans ((G.block w.heap.size (by omega) (fun e=>by injection e;omega)).trans ag.out);have al:=hidX ((ax.out.trans (G.below (by omega) (fun g e=>by injection e;omega))).trans (E.mono (by omega)):Below w.heap.size w w4);have aS:=((ar.turned ap aI).below E).cell (j:=2) rfl;have C4:=hidX (((aF.turned ap aB (by decide) (by decide) (by decide) (by decide) (by decide) (by decide)).mko (MkO.of_below E:MkO (some w1.heap.size) w3 w4) (by omega)).base (show w.heap.size<=u1.heap.size by omega));have aM:=hidX aG;clear E I G U ar aF aB ap aG aL;go_wp2_with (first | (refine zac (by rfl) 27 (.tmp 2) (.tmp 23) (by rfl) w.heap.size (csL 0 0 (.slice la M.length lc)) (by rfl) (by rfl) _ 27 ae (by rfl) zfC (ziH _ _ _ _ _) ?_;intro w5 ak ad) | fail);have aj:=run_loadVar_mid (P:=Tryz.prog) w5 w.heap.size 0 27 (csL 0 0 (.slice la M.length lc)) _ (zal ak.out) Tryz.underlying27 rfl zfC;(try go_frame);refine bodyPost_ret (v:=.agg (csL 0 0 (.slice la M.length lc)).toArray) (by simp[results,Tryz.results7,asAddr,aj]) rfl ⟨al.out.trans (ad.out.below (Nat.le_refl _)),0,0,la,lc,M,rfl,C4.out.turned ad.out ae (by decide) (by decide) (by decide) (by decide) (by decide) (by decide),?_⟩;rw[ao.out];exact ⟨rfl,rfl,aM.out⟩
end Go.Proofs.YtjjjagepnnbebaaGreatDoor
namespace Go.Proofs.YtjjjagepnnbebaaGreatDoor
theorem znY{k:Int}(h:kOk k=true):zde k=k/\zbr k:=by
 unfold kOk at h;simp at h;refine ⟨?_,by unfold zbr;omega⟩;unfold zde;rw[if_neg (by omega)]
theorem zoO{S:List Sp}{a:Ac}{nx nx':Nat}(h:gAc S a nx=some nx'):zav a=true/\a.args.length<=6/\zaT S a.args nx=some nx':=by
 unfold gAc at h;split at h
 ·rename_i E;simp only[Bool.and_eq_true,decide_eq_true_eq]at E;exact ⟨E.1,E.2,h⟩
 cases h
theorem zny(es:List Ex)(xs:List Int)(r:Bs):Brk (zaG es xs ++ 41 :: r):=by
 cases xs with
 | nil=>exact brk41 r
 | cons u E=>exact Brk.cons _ (by decide)
theorem zoP{es:List Ex}{S:List Sp}(hT:ExT es S){a:Ac}{nx nx':Nat}(h:gAc S a nx=some nx')(r:Bs)(k:Nat):andP (zai 40 (wds (txA es a ++ r) k)) (fun _ l1=>pAct (es.take nx,nx) l1)=.ok ((a,(es.take nx',nx')),wds r (k+(txA es a).length)):=by
 obtain ⟨hf,hl,hg⟩:=zoO h;obtain ⟨kd,G,cls,args⟩:=a;unfold zav at hf;simp only at hf hl hg;have e:txA es ⟨kd,G,cls,args⟩ ++ r=40 :: (zbe ⟨kd,G,cls,args⟩ ++ (zaG es args ++ 41 :: r)):=by simp[txA]
 have el:(txA es ⟨kd,G,cls,args⟩).length=1+(zbe ⟨kd,G,cls,args⟩).length+(zaG es args).length+1:=by simp[txA];omega
 rw[e,el,zcq,zak];have ha:=zjR hT args 6 nx nx' r;by_cases k1:kd=1
 ·subst k1;simp at hf;obtain ⟨h1,rfl⟩:=hf;obtain ⟨hs,ab⟩:=zlh h1;have U:zbe ⟨1,0,cls,args⟩ ++ (zaG es args ++ 41 :: r)=addB ++ (32 :: (bsOf cls ++ (zaG es args ++ 41 :: r))):=by simp[zbe]
  have E:(zbe ⟨1,0,cls,args⟩).length=addB.length+1+(bsOf cls).length:=by simp[zbe];omega
  rw[U,E];obtain ⟨x,O,q2,I,q4⟩:=(Tok.sym (t:=addB) (by decide)).take (32 :: (bsOf cls ++ (zaG es args ++ 41 :: r))) (k+1) (brk32 _);obtain ⟨y,X,p2,p3,Z⟩:=(Tok.sym hs).take (zaG es args ++ 41 :: r) (k+1+addB.length+1) (zny es args r);unfold pAct;rw[O,zak,I,if_neg (by decide),if_neg (by decide),if_neg (by decide),if_pos (show addB=addT from rfl),wds32];unfold aAdd za3;rw[X];simp only[p3,if_neg ab,zak];rw[ha _ hl hg,zak,zb2];refine congrArg Except.ok (Prod.ext rfl (congrArg (wds r) ?_));omega
 by_cases k2:kd=2
 ·subst k2;simp at hf;obtain ⟨⟨h1,h2⟩,rfl⟩:=hf;obtain rfl:=zeb h1;obtain ⟨r1,r2⟩:=znY h2;unfold zaT at hg;injection hg with hg;subst hg;have U:zbe ⟨2,G,mkS [],[]⟩ ++ (zaG es [] ++ 41 :: r)=zeO ++ (32 :: (Lib.itoa G ++ (41 :: r))):=by simp[zbe,zaG]
  have E:(zbe ⟨2,G,mkS [],[]⟩).length=zeO.length+1+(Lib.itoa G).length:=by simp[zbe];omega
  rw[U,E];obtain ⟨x,O,q2,I,q4⟩:=(Tok.sym (t:=zeO) (by decide)).take (32 :: (Lib.itoa G ++ (41 :: r))) (k+1) (brk32 _);obtain ⟨y,X,p2,p3,Z⟩:=(Tok.num r2).take (41 :: r) (k+1+zeO.length+1) (brk41 _);unfold pAct;rw[O,zak,I,if_neg (by decide),if_neg (by decide),if_pos (show zeO=zdV from rfl),wds32];unfold zds pRef;rw[X,zak,zak,zc1,zak,Z,r1];refine congrArg Except.ok (Prod.ext rfl (congrArg (wds r) ?_));show _=k+(1+(zeO.length+1+(Lib.itoa G).length)+0+1);omega
 by_cases k3:kd=3
 ·subst k3;simp at hf;obtain ⟨h1,h2⟩:=hf;obtain rfl:=zeb h1;obtain ⟨r1,r2⟩:=znY h2;have U:zbe ⟨3,G,mkS [],args⟩ ++ (zaG es args ++ 41 :: r)=modB ++ (32 :: (Lib.itoa G ++ (zaG es args ++ 41 :: r))):=by simp[zbe]
  have E:(zbe ⟨3,G,mkS [],args⟩).length=modB.length+1+(Lib.itoa G).length:=by simp[zbe];omega
  rw[U,E];obtain ⟨x,O,q2,I,q4⟩:=(Tok.sym (t:=modB) (by decide)).take (32 :: (Lib.itoa G ++ (zaG es args ++ 41 :: r))) (k+1) (brk32 _);obtain ⟨y,X,p2,p3,Z⟩:=(Tok.num r2).take (zaG es args ++ 41 :: r) (k+1+modB.length+1) (zny es args r);unfold pAct;rw[O,zak,I,if_neg (by decide),if_pos (show modB=modT from rfl),wds32];unfold aMod pRef;rw[X,zak,zak,ha _ hl hg,zak,Z,r1];refine congrArg Except.ok (Prod.ext rfl (congrArg (wds r) ?_));omega
 by_cases k4:kd=4
 ·subst k4;simp at hf;obtain ⟨h1,rfl,rfl⟩:=hf;obtain rfl:=zeb h1;unfold zaT at hg;injection hg with hg;subst hg;have U:zbe ⟨4,0,mkS [],[]⟩ ++ (zaG es [] ++ 41 :: r)=zg6 ++ (41 :: r):=by simp[zbe,zaG]
  have E:(zbe ⟨4,0,mkS [],[]⟩).length=zg6.length:=by simp[zbe]
  rw[U,E];obtain ⟨x,O,q2,I,q4⟩:=(Tok.sym (t:=zg6) (by decide)).take (41 :: r) (k+1) (brk41 _);unfold pAct;rw[O,zak,I,if_pos (show zg6=zd6 from rfl)];unfold zd8;rw[zc1,zak];refine congrArg Except.ok (Prod.ext rfl (congrArg (wds r) ?_));show _=k+(1+zg6.length+0+1);omega
 simp[k1,k2,k3,k4]at hf
theorem zja{es:List Ex}{S:List Sp}(U:ExT es S):∀ (l:List Ac) (n nx j:Nat) (r:Bs) (k:Nat),l.length<=n->zbP S l nx j=none ->
  andP (zaK 41 pAct n (es.take nx,nx) (wds (txAs es l ++ 41 :: r) k)) (fun q l6=>andP (zai 41 l6) fun _ l7=>.ok (q,l7))=.ok ((l,(es,es.length)),wds r (k+(txAs es l).length+1))
 | [],n,nx,j,r,k,_,h=>by
  unfold zbP at h
  split at h
  ·rename_i hn
   subst hn
   show andP (zaK 41 pAct n _ (wds (41 :: r) k)) _=_
   rw[zfJ (k:=41) (zep r k) rfl,zak,zc1,zak,U.2.2.1,List.take_of_length_le (Nat.le_refl _)]
   rfl
  ·cases h
 | a :: l,n,nx,j,r,k,hl,h=>by
  obtain ⟨m,rfl⟩:∃ m,n=m+1:=⟨n - 1,by simp at hl;omega⟩
  unfold zbP at h
  cases hg:gAc S a nx with
  | none=>rw[hg]at h;cases h
  | some nx'=>
   rw[hg]at h
   simp only at h
   have e:txAs es (a :: l) ++ 41 :: r=zbJ ++ (txA es a ++ (txAs es l ++ 41 :: r)):=by simp[txAs]
   have X:(txAs es (a :: l)).length=3+(txA es a).length+(txAs es l).length:=by simp[txAs,zbJ];omega
   have I:=zoP U hg (txAs es l ++ 41 :: r) (k+3)
   obtain ⟨s,hs⟩:∃ s,txA es a ++ (txAs es l ++ 41 :: r)=40 :: s:=⟨_,rfl⟩
   rw[e,X,zkk]
   rw[hs]at I ⊢
   rw[zcq,zak]at I
   have E:=zeQ (M:=[]) (k:=41) (rd:=pAct) (n:=m) (zda s (k+3)) (show (40:Int)≠41 by decide) (zcq s (k+3)) I
   have h1:zaK 41 pAct (m+1) (es.take nx,nx) (wds (40 :: s) (k+3))=preE [a] (zaK 41 pAct m (es.take nx',nx') (wds (txAs es l ++ 41 :: r) (k+3+(txA es a).length))):=by
    cases O:zaK 41 pAct (m+1) (es.take nx,nx) (wds (40 :: s) (k+3)) with
    | error f=>rw[O]at E;exact E
    | ok q=>rw[O]at E;simpa[preE] using E
   rw[h1];have G:=zja U l m nx' (j+1) r (k+3+(txA es a).length) (by simp at hl;omega) h
   cases O:zaK 41 pAct m (es.take nx',nx') (wds (txAs es l ++ 41 :: r) (k+3+(txA es a).length)) with
   | error f=>rw[O]at G;cases G
   | ok q=>
    obtain ⟨⟨vs,s2⟩,l6⟩:=q;rw[O,zak]at G;show andP (zai 41 l6) (fun _ l7=>.ok (([a] ++ vs,s2),l7))=_
    cases ht:zai 41 l6 with
    | error f=>rw[ht]at G;cases G
    | ok z=>
     obtain ⟨x,l7⟩:=z;rw[ht,zak]at G;injection G with G;injection G with i1 i2;injection i1 with i1 i3;rw[zak,i1,i2,i3];refine congrArg Except.ok (Prod.ext rfl (congrArg (wds r) ?_));omega
theorem zmP{r:Ru}(h:shape r=none):zck r=true/\(∀ p∈r.pats,gPt p=true)/\Spans r.exprs (zat [] r.exprs)/\(zat [] r.exprs).length=r.exprs.length/\zbP (zat [] r.exprs) r.acts 0 1=none:=by
 obtain ⟨I,E⟩:=zgc h;unfold shape at h;split at h
 ·rename_i G;split at h
  ·cases h
  ·split at h
   ·cases h
   ·rename_i O;have hS:=(zb0 (es:=r.exprs) (l:=r.exprs) (Spans.nil _) rfl).1;exact ⟨G,E,hS,by have:=hS.1;omega,h⟩
 cases h
theorem znM{ru:Ru}(h:shape ru=none)(hn:RuN ru)(u:Bs)(k:Nat):andP (zai 40 (wds (txR ru ++ u) k)) (fun _ l1=>zbh l1)=.ok (ru,wds u (k+(txR ru).length)):=by
 obtain ⟨hh,U,hS,O,I⟩:=zmP h;obtain ⟨n1,n2,n3⟩:=hn;obtain ⟨nm,sl,ps,es,E⟩:=ru;simp only[zck,Bool.and_eq_true,decide_eq_true_eq]at hh;obtain ⟨hs,hp,ha,he⟩:=hh;simp only at hs hp ha he U hS O I n1 n2 n3;have hT:ExT es (zat [] es):=⟨he,hS,O,n3⟩
 have e:txR ⟨nm,sl,ps,es,E⟩ ++ u=40 :: (zd2 ++ (32 :: (bsOf nm ++ (32 :: (Lib.itoa sl ++ (txPs ps ++ (zbJ ++ (zcz ++ (txAs es E ++ 41 :: (10 :: u)))))))))):=by
  simp[txR,txHd,zhk,zd2]
 have el:(txR ⟨nm,sl,ps,es,E⟩).length=1+zd2.length+1+(bsOf nm).length+1+(Lib.itoa sl).length+(txPs ps).length+5+(txAs es E).length+1+1:=by
  simp[txR,txHd,zhk,zd2,zbJ,zcz];omega
 rw[e,el,zcq,zak];have X:Brk (txPs ps ++ (zbJ ++ (zcz ++ (txAs es E ++ 41 :: (10 :: u))))):=by
  cases ps with
  | nil=>exact Brk.cons _ (by decide)
  | cons x xs=>exact Brk.cons _ (by decide)
 have Z:Brk (txAs es E ++ 41 :: (10 :: u)):=by
  cases E with
  | nil=>exact brk41 _
  | cons x xs=>exact Brk.cons _ (by decide)
 obtain ⟨x,q1,q2,q3,q4⟩:=(Tok.sym (t:=zd2) (by decide)).take (32 :: (bsOf nm ++ (32 :: (Lib.itoa sl ++ (txPs ps ++ (zbJ ++ (zcz ++ (txAs es E ++ 41 :: (10 :: u))))))))) (k+1) (brk32 _);obtain ⟨y,p1,p2,p3,p4⟩:=(Tok.sym (t:=bsOf nm) hs).take (32 :: (Lib.itoa sl ++ (txPs ps ++ (zbJ ++ (zcz ++ (txAs es E ++ 41 :: (10 :: u))))))) (k+1+zd2.length+1) (brk32 _);obtain ⟨z,r1,r2,r3,r4⟩:=(Tok.num n1).take (txPs ps ++ (zbJ ++ (zcz ++ (txAs es E ++ 41 :: (10 :: u))))) (k+1+zd2.length+1+(bsOf nm).length+1) X;have G:=zji ps 6 (txAs es E ++ 41 :: (10 :: u)) (k+1+zd2.length+1+(bsOf nm).length+1+(Lib.itoa sl).length) hp (fun p hp=>⟨U p hp,n2 p hp⟩) Z;have has:=zja hT E 8 0 1 (10 :: u) (k+1+zd2.length+1+(bsOf nm).length+1+(Lib.itoa sl).length+(txPs ps).length+5) ha I;unfold zbh;rw[q1,zak,q3,if_pos rfl,wds32,p1,zak,wds32,r1,zak]
 cases hq:za1 62 pPat 6 (wds (txPs ps ++ (zbJ ++ (zcz ++ (txAs es E ++ 41 :: (10 :: u))))) (k+1+zd2.length+1+(bsOf nm).length+1+(Lib.itoa sl).length)) with
 | error f=>rw[hq]at G;cases G
 | ok q=>
  obtain ⟨vs,l4⟩:=q;rw[hq,zak]at G;rw[zak]
  cases ht:zai 62 l4 with
  | error f=>rw[ht]at G;cases G
  | ok z=>
   obtain ⟨x4,l5⟩:=z;rw[ht,zak]at G;injection G with G;injection G with i1 i2;subst i1;subst i2;rw[zak];rw[List.take_zero]at has
   cases hw:zaK 41 pAct 8 ([],0) (wds (txAs es E ++ 41 :: (10 :: u)) (k+1+zd2.length+1+(bsOf nm).length+1+(Lib.itoa sl).length+(txPs vs).length+5)) with
   | error f=>rw[hw]at has;cases has
   | ok q=>
    obtain ⟨⟨ws,s2⟩,l6⟩:=q;rw[hw,zak]at has;rw[zak]
    cases hv:zai 41 l6 with
    | error f=>rw[hv]at has;cases has
    | ok z=>
     obtain ⟨x6,l7⟩:=z;rw[hv,zak]at has;injection has with has;injection has with j1 j2;injection j1 with j1 j3;subst j1;subst j2;subst j3;rw[zak,p3,r4,zb2,wds10];refine congrArg Except.ok (Prod.ext rfl (congrArg (wds u) ?_));omega
theorem zh8:∀ (rs:List Ru) (n:Nat) (u:Bs) (k:Nat),rs.length<=n->(∀ r∈rs,shape r=none/\RuN r)->za1 0 zbh n (wds (txRs rs ++ u) k)=preL rs (za1 0 zbh (n - rs.length) (wds u (k+(txRs rs).length)))
 | [],n,u,k,_,_=>by
  show za1 0 zbh n (wds u k)=preL [] (za1 0 zbh n (wds u k))
  unfold preL
  cases za1 0 zbh n (wds u k) <;> rfl
 | r :: rs,n,u,k,hl,hr=>by
  obtain ⟨m,rfl⟩:∃ m,n=m+1:=⟨n - 1,by simp at hl;omega⟩
  obtain ⟨g1,g2⟩:=hr r (by simp)
  have e:txRs (r :: rs) ++ u=txR r ++ (txRs rs ++ u):=by simp[txRs]
  have O:(txRs (r :: rs)).length=(txR r).length+(txRs rs).length:=by simp[txRs]
  have G:=znM g1 g2 (txRs rs ++ u) k
  obtain ⟨s,hs⟩:∃ s,txR r ++ (txRs rs ++ u)=40 :: s:=⟨_,rfl⟩
  rw[e,O,hs]
  rw[hs,zcq,zak]at G
  have E:=zcZ (M:=[]) (k:=0) (rd:=zbh) (n:=m) (zda s k) (show (40:Int)≠0 by decide) (zcq s k) G
  have h1:za1 0 zbh (m+1) (wds (40 :: s) k)=preL [r] (za1 0 zbh m (wds (txRs rs ++ u) (k+(txR r).length))):=by
   cases I:za1 0 zbh (m+1) (wds (40 :: s) k) with
   | error f=>rw[I]at E;exact E
   | ok q=>rw[I]at E;simpa[preL] using E
  rw[h1,zh8 rs m u _ (by simp at hl;omega) (fun x hx=>hr x (by simp[hx]))];have ec:m+1 - (r :: rs).length=m - rs.length:=by simp
  rw[ec,Nat.add_assoc]
  cases za1 0 zbh (m - rs.length) (wds u (k+((txR r).length+(txRs rs).length))) with
  | error f=>rfl
  | ok q=>simp[preL]
theorem zlI{rs:List Ru}(h:(chk rs).1=0)(hn:∀ r∈rs,RuN r)(hl:(txRs rs).length<=20000):∃ l,prR (txRs rs)=.ok (rs,l):=by
 obtain ⟨h1,h2⟩:=zgB h;refine ⟨[⟨0,0+(txRs rs).length,[],0⟩],?_⟩;unfold prR zcd;rw[if_neg (by omega),zkr];have:=zh8 rs 16 [] 0 h1 (fun r hr=>⟨(h2 r hr).1,hn r hr⟩);rw[List.append_nil]at this;rw[this,zqr,zdz (k:=0) (rd:=zbh) (x:=⟨0,0+(txRs rs).length,[],0⟩) (r:=[⟨0,0+(txRs rs).length,[],0⟩]) rfl rfl];simp[preL]
end Go.Proofs.YtjjjagepnnbebaaGreatDoor
namespace Go.Proofs.YtjjjagepnnbebaaGreatDoor
open Go.RowKit
theorem zfz{w:World}{B t m n c:Nat}{a:Option Addr}{xs:List Value}(h:w.ownsRow B t m (.slice a n c) n xs):n<=c:=by
 obtain ⟨_,⟨h1,h2⟩ | ⟨g,cap,cur,h1,h2,h3,E,_⟩⟩:=h
 ·omega
 injection h1 with _ _ e3;omega
theorem NRow.ptsAt{w:World}{B:Nat}{a:Option Addr}{c:Nat}{M:List (Pt × Value)}(h:NRow ptK w B a c M):zdv none w a (M.map Prod.fst):=
 zbf.of_owns h.row (fun _ _=>rfl) (by decide) fun x hx=>by
  obtain ⟨la,lc,e,ho⟩:=h.all x hx
  have E:w.ownsRow B 95 6 (.slice la x.1.terms.length lc) x.1.terms.length (x.1.terms.flatMap tmC):=by rw[e]at ho;exact ho
  refine ⟨la,lc,by show ptP x.1 x.2=_;rw[e];rfl,?_,zfz E⟩
  have:=zbf.of_owns (R:=Tm.R) (p:=id) E (fun _ _=>rfl) (by decide) (fun _ _=>rfl)
  simpa using this
theorem NRow.acsAt{w:World}{B:Nat}{a:Option Addr}{c:Nat}{M:List (Ac × Value)}(h:NRow acK w B a c M):zdY none w a (M.map Prod.fst):=
 zbf.of_owns h.row (fun _ _=>rfl) (by decide) fun x hx=>by
  obtain ⟨la,lc,e,ho⟩:=h.all x hx
  have E:w.ownsRow B 3 1 (.slice la x.1.args.length lc) x.1.args.length (icells x.1.args):=by rw[e]at ho;exact ho
  exact ⟨la,lc,by show acL x.1 x.2=_;rw[e];rfl,zbL.owns E⟩
theorem RRow.at{w:World}{B:Nat}{a:Option Addr}{c:Nat}{M:List RX}(h:RRow w B a c M):zdD none w a (M.map RX.ru):=
 zbf.of_owns h.row (fun _ _=>rfl) (by decide) fun x hx=>by
  have hx:=h.all x hx
  have hp:=hx.pts.ptsAt
  have ha:=hx.acs.acsAt
  rw[hx.mp]at hp
  rw[hx.ma]at ha
  refine ⟨x.pa,x.pc,x.ea,x.ec,x.aa,x.ac,?_,hp,?_,ha,zfz hx.exs⟩
  ·show ruL x.ru.name x.ru.sal (.slice x.pa x.MP.length x.pc) (.slice x.ea x.ru.exprs.length x.ec) (.slice x.aa x.MA.length x.ac)=_
   rw[<- hx.mp,<- hx.ma,List.length_map,List.length_map]
   rfl
  have:=zbf.of_owns (R:=Ex.R) (p:=id) hx.exs (fun _ _=>rfl) (by decide) (fun _ _=>rfl)
  simpa using this
end Go.Proofs.YtjjjagepnnbebaaGreatDoor
namespace Go.Proofs.YtjjjagepnnbebaaGreatDoor
open Go.RowKit
attribute [local go_sem ↓] Go.wp_at_zero Go.wp_at_succ
structure zjn (w:World):Prop where
 env:zfl w w.heap.size
 err:ErrT w
 tab:zcI w
theorem zfl.laterP{w w':World}(h:zfl w w.heap.size)(hb:Below w.heap.size w w'):zfl w' w'.heap.size:=
 ⟨(h.keep hb).err,(h.keep hb).tests,Nat.lt_of_lt_of_le h.g1 hb.size,Nat.lt_of_lt_of_le h.g2 hb.size⟩
theorem ErrT.laterP{w w':World}(h:ErrT w)(hb:Below w.heap.size w w'):ErrT w':=(World.cell?_of_block (w:=w) (hb.block 0 (zfb h))).trans h
theorem zjn.later{w w':World}(h:zjn w)(hb:Below w.heap.size w w'):zjn w':=⟨h.env.laterP hb,h.err.laterP hb,h.tab.below hb⟩
theorem zr4{rs:List Ru}(h:zb3 Ru.le 1048576 rs):zb3 Ru.lq 1048576 rs:=
 ⟨h.1,fun r hr=>by
  obtain ⟨_,hp,he,ha⟩:=h.2 r hr
  exact ⟨trivial,⟨hp.1,fun p E=>⟨trivial,(hp.2 p E).2.1,fun _ _=>trivial⟩⟩,⟨he.1,fun _ _=>trivial⟩,ha.1,fun x hx=>⟨trivial,(ha.2 x hx).2⟩⟩⟩
theorem znZ{src:Bs}{rs:List Ru}{l:List Wd}(hp:prR src=.ok (rs,l))(a:Option Addr)(c:Nat)(w:World)(hv:zbZ w a src)(G:src.length<=c)(E:∀ b o,a=some ⟨b,o,none⟩->b<w.heap.size)(hV:zjn w):Calls Tryz.prog 7 #[.slice a src.length c] w fun e w'=>∃ la lc,e=.returned (.agg #[.int .i64 0,.int .i64 0,.slice la rs.length lc])/\zdD none w' la rs/\rs.length<=lc/\Below w.heap.size w w':=by
 refine (zem src a c w hv G E hV.env hV.err).mono ?_;rintro e w' ⟨hb,code,pos,la,lc,M,rfl,hr,hm⟩;rw[hp]at hm;obtain ⟨h1,h2,h3⟩:=hm;subst h1;subst h2;subst h3;exact ⟨la,lc,by simp[csL],hr.at,by rw[List.length_map];exact zfz hr.row,hb⟩
end Go.Proofs.YtjjjagepnnbebaaGreatDoor
