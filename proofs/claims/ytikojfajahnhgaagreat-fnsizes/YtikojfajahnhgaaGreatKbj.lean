import Derived.Test.YtikojfajahnhgaaGreatKbg
import Derived.Test.YtikojfajahnhgaaGreatKbi
import Derived.Test.YtikojfajahnhgaaGreatKbf
set_option linter.all false
set_option maxHeartbeats 12800000
set_option maxRecDepth 100000
namespace Go.Proofs.YtikojfajahnhgaaGreat
attribute [local simp] At I6 Pn mzI
attribute [local go_sem] At I6 Pn
open Go.RowKit Go.Proofs.Tryz
variable{P:Prop}
section
attribute [local go_sem ↓] wp_at_zero wp_at_succ
def sW(x T):(BV x (uv T)).getD (.agg #[])=.agg #[]:=by
 cases h:BV x (uv T) with
 |none=>rfl
 |some v=>
  unfold BV uv at h;obtain⟨y,a,rfl⟩:=Yd.1 h;obtain⟨z,_,rfl⟩:=yz.1 (KX a);rfl
def A3.ar{w w' b r g L a}(h:A3 w b r L a)(f:Bg (some g) w w')(i:CK w w')(d:g≠b)(c:g≠r):A3 w' b r L a:=h.aw (S:=λx=>x=g) (Av.of f rfl) i (λe=>d e.y) (λe=>c e.y)
def zu(cb nb wb r T todo M x w)(h:CS w cb nb wb T M)(hR:A3 w nb r (uv T) todo)(hr:r≠wb)(hx:AG w x)(hk:-9<=As x M/\As x M<=9) :
  Ca 211 #[Pn cb,AM x] w λe w'=>e=.returned (.tuple #[])/\CS w' cb nb wb (T.filter (λy=>decide (y≠x))) (E8 x (-1) M)/\A3 w' nb r (uv (T.filter (λy=>decide (y≠x)))) (todo.filter (λy=>decide (y≠x)))/\Av (λg=>g=nb∨g=wb) w w':=by
 exact rN
def zr(cb nb wb T M x w)(h:CS w cb nb wb T M)(i:AG w x) :
  Ca 212 #[Pn cb,AM x] w λe w'=>e=.returned (.bool (decide (x∈T)))/\Bw w w':=by
 obtain⟨f,k⟩:=Ah h i;obtain⟨x0,x1,b⟩:=x;obtain⟨d,hd⟩:∃d,d=decide ((x0,x1,b)∈T):=⟨_,rfl⟩
 rw[<-hd];have n:=Aa hd;clear h i hd;go_enter func212,ntmps212;unfold AM;go_upto_region 1 with fail;refine Be ?_;intro a O g;have r:At a cb 0 (.map (some nb)):=AS (L:=[_,_]) (f.o.d O).q (j:=0) rfl;obtain⟨s,z,t2⟩:=Da g rfl;have c:∀u,Bw w u->(Instr.lookup 260 (.map (some nb)) (.agg #[.pointer x0,.pointer x1,.pointer b]) true).run prog u=.ok (.tuple #[.agg #[],.bool d]) u:=λu hu=>by
  have h:=MW tys EP (fS u) (f.o.d hu).now (k.o.d hu) true;have l:(BV (x0,x1,b) (uv T)).isSome=decide ((x0,x1,b)∈T):=by
   rw[KF,decide_eq_true_eq,M7,PM]
  rw[l,if_pos rfl,<-n.o,sW]at h;exact h
 have p:cb<a.heap.size:=Ak (f.o.d O).q;have v:w.heap.size<a.heap.size:=Ak g;have A:=c a.drew O.drew;have t:=λo=>c (a.drew.alloc o) (O.drew.alloc qf o);have y:=λo=>c (a.alloc o).drew (O.alloc qd o).drew;have m:=Aa O;clear c O g f k;go_wp2_with fail;go_region;go_wp2_with fail;go_ret;exact⟨rfl,(m.o.alloc qd _).drew⟩
end
def Cl(u w:World):Prop:=∀(g:Nat)c t fr,u.heap[g]?=some (.cells c t fr)->(∀k n,c≠#[.int k n])->w.heap[g]?=some (.cells c t fr)
def CK.i{u w}(h:CK u w):Cl u w:=λg c t b a _=>h g c t b a
def Cl.c{u v w}(h:Cl u v)(k:Cl v w):Cl u w:=λg c t a d b=>k g c t a (h g c t a d b) b
def Cl.m{u w}(h:Bw u w):Cl u w:=(CK.m h).i
def Cl.ci{u:World}{b o v}(a:u.cell? ⟨b,o,none⟩=some v)(O:o≠0∨∀k n,v≠.int k n):∃c t f,u.heap[b]?=some (.cells c t f)/\∀k n,c≠#[.int k n]:=by
 cases d:u.heap[b]? with
 |none=>simp[World.cell?,d]at a
 |some g=>
  cases g with
  |cells c t f=>
   refine⟨c,t,f,rfl,λk n e=>?_⟩;subst e;rcases o with _|o
   .simp[World.cell?,d]at a;rcases O with O|O
    .exact O rfl
    exact O k n a.y
   .simp[World.cell?,d]at a
  |_=>simp[World.cell?,d]at a
def Cl.cC{u w}(h:Cl u w){b o v}(g:u.cell? ⟨b,o,none⟩=some v)(O:o≠0∨∀k n,v≠.int k n){p x}(f:u.cell? ⟨b,p,none⟩=some x):w.cell? ⟨b,p,none⟩=some x:=by
 obtain⟨c,t,d,a,e⟩:=Cl.ci g O;rw[<-f];exact yR (w:=u) ((h b c t d a e).c a.y)
def Bt.aT{u w a vs}(h:Bt u a vs)(f:Cl u w):Bt w a vs:=λi v hv=>by
 obtain⟨b,o,e,O,d,c⟩:=h i v hv;have q:=@Cl.cC _ _ f _ _ _ c (.inl qd);exact⟨b,o,e,q O,q d,q c⟩
def DB.aT{u w v f}(h:DB u v f)(g:Cl u w):DB w v f:=by
 obtain⟨b,o,e,O,d,a,c,i,j⟩:=h;have q:=@Cl.cC _ _ g _ _ _ d (.inl qd);exact⟨b,o,e,q O,q d,a,c,q i,j.aT g⟩
def DS.aT{u w a ts}(h:DS u a ts)(j:Cl u w):DS w a ts:=λi t g=>by
 obtain⟨b,o,e,O,c,d,f⟩:=h i t g;have q:=@Cl.cC _ _ j _ _ _ c (.inl qd);exact⟨b,o,e,q O,q c,q d,q f⟩
def Ho.aT{u w a fs adr}(h:Ho u a fs adr)(c:Cl u w):Ho w a fs adr:=λi f g=>by
 obtain⟨b,o,e,O,d⟩:=h i f g;exact⟨b,o,e,c.cC O (.inr λ_ _ e=>qo) O,d.aT c⟩
def IG(adr:F->Addr)(U:List F)(w:World):Prop:=∀f∈U,DB w (.pointer (some (adr f))) f
def Br.a{adr U w}(h:Br adr U w):IG adr U w:=λf b=>(h f b).1
def IG.aT{adr U u w}(h:IG adr U u)(b:Cl u w):IG adr U w:=λf a=>(h f a).aT b
def zp{adr U w}(h:IG adr U w){T}(a:∀f∈T,f∈U)(hl:T.length<=3):En w (.pointer (T[0]?.map adr)) (.pointer (T[1]?.map adr)) (.pointer (T[2]?.map adr)) T:=λi f hi=>by
 have hf:=h f (a f (yd hi));have O:=(ye.1 hi).1
 match i,hi,O with
 |0,hi,_=>exact⟨_,rfl,O_⟩
 |1,hi,_=>exact⟨_,rfl,O_⟩
 |2,hi,_=>exact⟨_,rfl,O_⟩
 |k+3,_,O=>omega
section
attribute [local go_sem ↓] wp_at_zero wp_at_succ
def oP(h:P:=by(try dsimp only);(go_split_ands;refine⟨?_,?_,?_,?_,?_,?_⟩<;>first|(simp[*];done))):=h
def oA(h:P:=by
 go_roundw
 case rel=>exact⟨k+1,a',c',by omega,by go_num,by rw[ao.o];exact ah.o.d af,by rw[ao.o];exact AF HO.o af,hb.thn af⟩
 case measure=>(simp;omega)
 ):=h
def om(h:P:=by
 go_simp;refine hK.o _ _ (by(try dsimp only);(go_split_ands;refine⟨?_,?_,?_,?_,?_,?_⟩<;>first|(simp[go_sem, *];done))) λhQ=>?_;replace hHeld:=hQ;clear hK K hQ;(try simp only[pA,pZ,pS,pN]);refine wpAnyH_done (by kernel_rfl) ?_ _;refine Ya ?_;have au:w3.ownsRow (w1.heap.size+1) 320 6 (.slice a3 (BL p.e (k+1)).length ay) (BL p.e (k+1)).length ((BL p.e (k+1)).flatMap Cm):=by
  have:=aA.o;rw[ao.o,Yr];simpa[Cm] using this
 have hlen:(BL p.e (k+1)).length=(BL p.e k).length+1:=by rw[ao.o];simp
 obtain⟨u1,u2,u3⟩:=VX ah.o ar au hb;rw[hlen]at u1 u2 u3;go_wp2;go_roundw
 case rel=>exact⟨k+1,a3,ay,by omega,by go_num,by rw[hlen];exact u1,by rw[hlen];exact u2,u3⟩
 case measure=>(simp;omega)
 ):=h
def zkZ(p m f){q}(w)(aq:E_ q w m p.e)(hc:p.z.size<=maxLen)(hs:EW Tm.le maxLen p.e)(hl:p.e.length<=1048576)(aV:p.e.length<=f) :
  Ca 204 #[.agg #[.bool p.neg,.string p.z,.slice m p.e.length f]] w λe w'=>
   (∃a' c',e=.returned (.agg #[.string (C0 p).z,I6 (C0 p).aa,.slice a' (C0 p).x.length c'])/\w'.ownsRow w.heap.size 320 6 (.slice a' (C0 p).x.length c') (C0 p).x.length ((C0 p).x.flatMap Cm))/\Bw w w':=by
 have aL:=Aa (λw' h=>ml p m f (q:=q) w' h hc hs hl);cases r:C_ p
 .rw[r]at aL;have Z:Hid (C0 p=⟨⟨#[]⟩,0,[]⟩):=show C0 p=_ from by simp[C0,r]
  go_enter func204,ntmps204;go_wp2_with (go_at_call 198;refine(aL.o _ (aq.d AX)).rtn λw1 M=>?_;have hr:=((C3.aF (w.alloc (.cells #[.bool p.neg,.string p.z,.slice m p.e.length f] 152)) 245 (.string ⟨#[]⟩) (I6 0) (.slice none 0 0)).d M);simp only[Wy]at hr;obtain⟨r0,r1,r2,f0,f1,f2⟩:=hr);have aO:Bw w w1:=AX.thn M;refine bodyPost_ret (v:=.agg #[.string ⟨#[]⟩,I6 0,.slice none 0 0]) (by simp[results,results204,go_sem,r0,r1,r2]) rfl ⟨⟨none,0,by rw[Z.o];rfl,by rw[Z.o];exact yN _ _ _ _⟩,?_⟩;exact((aO.setCell qe _).setCell qe _).setCell qe _
 rw[r]at aL;have Z:Hid (C0 p=⟨p.z,(p.e.length:Int),BL p.e p.e.length⟩):=show C0 p=_ from by simp[C0,r]
 have h6:=Vg r;have aR:=Aa (λi t ht=>ib r (i:=i) (t:=t) ht);clear r;go_enter func204,ntmps204;go_wp2_with (go_at_call 198;refine(aL.o _ (aq.d AX)).rtn λw1 M=>?_;have hr:=((C3.aF (w.alloc (.cells #[.bool p.neg,.string p.z,.slice m p.e.length f] 152)) 245 (.string ⟨#[]⟩) (I6 0) (.slice none 0 0)).d M);simp only[Wy]at hr;have hp:=(((C3.aF w 152 (.bool p.neg) (.string p.z) (.slice m p.e.length f)).d Aj).d M);obtain⟨p0,p1,Y,_,_,_⟩:=id hp;have aQ:∀o,At (w1.alloc o) w.heap.size 2 (.slice m p.e.length f):=λo=>zab Aj Y);have aO:Bw w w1:=AX.thn M;have aX:=hr.lt;obtain⟨HR,HP⟩:=Ah hr hp;clear hr hp p0 p1 Y aQ
 go_loopw [20] (λi wr=>∃(k:Nat)(a':Option Addr)(c':Nat),k<=p.e.length/\i=I6 k/\C3 wr w1.heap.size (.string p.z) (I6 (p.e.length:Int)) (.slice a' (BL p.e k).length c')/\wr.ownsRow (w1.heap.size+1) 320 6 (.slice a' (BL p.e k).length c') (BL p.e k).length ((BL p.e k).flatMap Cm)/\Bw w1 wr) (mz p.e.length)
 case atStart=>exact⟨0,none,0,qd,rfl,C3.aF _ _ _ _ _,yN _ _ _ _,Aj⟩
 case round=>
  obtain⟨k,a',c',hk,rfl,aB,G,hb⟩:=hrel;obtain⟨HO,ah⟩:=Ah G aB;clear G;have aY:=aB.lt;have I:Bw w wr:=aO.thn hb;have aP:=HR.o.aq hb aX;have aF:=HP.o.aq hb qd;by_cases aT:k<p.e.length
  .obtain⟨t,aK⟩:=Ba aT;obtain⟨b,o,ea,hq,c0,c1,c2,c3,c4,c5⟩:=(aq.d I).get aK;subst ea;have aM:=aR.o k t aK;have aJ:=Aa (zoZ aK);have a0:=S0 p.e k;obtain⟨D,N,aI⟩:=AA (λw' h=>kr p (some ⟨b,o,none⟩) f (q:=q) k t w' h aK hl aV) (λo=>(aq.d I).d (E6 o)) (λw'=>nD t w');have p0:∀o,(wr.alloc o).cell? ⟨w.heap.size,0,none⟩=_:=λo=>zab (E6 o) aF.1;have p1:∀o,(wr.alloc o).cell? ⟨w.heap.size,1,none⟩=_:=λo=>zab (E6 o) aF.2.1;have Y:∀o,(wr.alloc o).cell? ⟨w.heap.size,2,none⟩=_:=λo=>zab (E6 o) aF.2.2.1;clear aP aB aF;by_cases L:t.u=0
   .have ao:Hid (BL p.e (k+1)=BL p.e k):=show BL p.e (k+1)=_ from by rw[aJ.o];simp[EM,L]
    rw[L]at c0;go_wp2_with (go_at_call 207;refine(D.o _ (N.o _)).rtn λn O=>?_;have x0:At n wr.heap.size 0 (I6 0):=zab O ql;have x1:At n wr.heap.size 1 (I6 t.op):=zab O ql;have x2:At n wr.heap.size 2 (.string t.A):=zab O ql;have x3:At n wr.heap.size 3 (I6 t.val.u):=zab O ql;have x4:At n wr.heap.size 4 (I6 t.val.num):=zab O ql;have x5:At n wr.heap.size 5 (.string t.val.J):=zab O ql;have af:Bw wr n:=Aj.thn O;have W:=(ah.o.d af).2.2.1;have aH:=af.size);exact oA
   cases R:t.A.toList.isEmpty
   .have aZ:=Aa (vg aM R);cases U:Ai p.e k t.A with
    |none=>
     have ao:Hid (BL p.e (k+1)=BL p.e k):=show BL p.e (k+1)=_ from by rw[aJ.o];simp[EM,R,U]
     rw[U]at D;simp only[Rm]at D;go_wp2_with (go_at_call 207;refine(D.o _ (N.o _)).rtn λn O=>?_;have x0:At n wr.heap.size 0 (I6 t.u):=zab O ql;have x1:At n wr.heap.size 1 (I6 t.op):=zab O ql;have x2:At n wr.heap.size 2 (.string t.A):=zab O ql;have x3:At n wr.heap.size 3 (I6 t.val.u):=zab O ql;have x4:At n wr.heap.size 4 (I6 t.val.num):=zab O ql;have x5:At n wr.heap.size 5 (.string t.val.J):=zab O ql;have af:Bw wr n:=Aj.thn O;have W:=(ah.o.d af).2.2.1;have aH:=af.size);exact oA
    |some T=>
     have ao:Hid (BL p.e (k+1)=BL p.e k++[⟨(k:Int),BJ t,(T:Int),I8⟩]):=show BL p.e (k+1)=_ from by rw[aJ.o];simp[EM,L,R,U]
     rw[U]at D;simp only[Rm]at D;have aW:((T:Int) != -1)=true:=qe;go_wp2_with (go_at_call 207;refine(D.o _ (N.o _)).rtn λn O=>?_;have x0:At n wr.heap.size 0 (I6 t.u):=zab O ql;have x1:At n wr.heap.size 1 (I6 t.op):=zab O ql;have x2:At n wr.heap.size 2 (.string t.A):=zab O ql;have x3:At n wr.heap.size 3 (I6 t.val.u):=zab O ql;have x4:At n wr.heap.size 4 (I6 t.val.num):=zab O ql;have x5:At n wr.heap.size 5 (.string t.val.J):=zab O ql;have af:Bw wr n:=Aj.thn O;have W:=(ah.o.d af).2.2.1;have aH:=af.size);clear c0 c1 c2 c3 c4 c5 p0 p1 Y O D N L R aM hq aW U;refine wp_region_noPanic ?_;refine wp_region_held_drew (S:=(λw'=>At w' wr.heap.size 0 (I6 t.u)/\At w' wr.heap.size 1 (I6 t.op)/\At w' wr.heap.size 2 (.string t.A)/\At w' wr.heap.size 3 (I6 t.val.u)/\At w' wr.heap.size 4 (I6 t.val.num)/\At w' wr.heap.size 5 (.string t.val.J))) qg ?_ (λhHeld=>?_)
     .exact oP
     refine sr 0 1 ?_;refine sr 2 4 ?_;refine sr 5 6 ?_;refine r2 1 4 (λK hK=>?_) λK hK=>?_
     .go_simp;refine hK.o _ _ (by(try dsimp only);(go_split_ands;refine⟨?_,?_,?_,?_,?_,?_⟩<;>first|(simp[*];done))) λhQ=>?_;replace hHeld:=hQ;clear hK K hQ;(try simp only[pA,pZ,pS,pN]);refine r1 4 λK hK=>?_;go_simp;(go_at_call 208;refine(aI.o _).j ?_;rintro e' E ⟨rfl,s⟩);(try go_wp2_with fail);refine hK.o _ _ (by(try dsimp only);(go_split_ands;refine⟨?_,?_,?_,?_,?_,?_⟩<;>first|exact zab s qk)) λhQ=>?_;replace hHeld:=hQ;clear hK K hQ;(try simp only[pA,pZ,pS,pN]);have ak:Bw wr E:=af.drew.c (s.j Uj);refine sr 6 7 ?_;refine r1 7 λK hK=>?_;go_simp;refine hK.o _ _ (by(try dsimp only);(go_split_ands;refine⟨?_,?_,?_,?_,?_,?_⟩<;>first|(simp[go_sem, *];done)|exact zab Aj qk)) λhQ=>?_;replace hHeld:=hQ;clear hK K hQ;(try simp only[pA,pZ,pS,pN]);have y:=ak.alloc T9 (.cells (Cm ⟨(k:Int),BJ t,(T:Int),I8⟩).toArray 320);have ai:=y.size;refine r1 8 λK hK=>?_;(refine Hd qi (.tmp 51) (.tmp 57) 243 qi (w1.heap.size+1) 320 _ 6 56 underlying243 SC qi qd _ (BL p.e k).length _ qi (AF HO.o y) (some ⟨_,0,none⟩) 1 1 qi (Cm ⟨(k:Int),BJ t,(T:Int),I8⟩) qi (λe=>qo) (Cv _ _ _ _ qi) (QA _) qj qd qP ?_;intro a3 ay w3 aA C aN;have H:(Value.slice a' (BL p.e k).length c').ownBlock≠some wr.heap.size:=(λe=>Un);have ar:Below (w1.heap.size+1) wr w3:=((y.j qd).grown C.o qP (λg r=>(HO.o.lt g r).1));obtain⟨_,_,m2,_,_,n2⟩:=ah.o.aq ar qd);refine hK.o _ _ (by(try dsimp only);(go_split_ands;refine⟨?_,?_,?_,?_,?_,?_⟩<;>first|exact(Nc C.o H Ui).c qk)) λhQ=>?_;replace hHeld:=hQ;clear hK K hQ;(try simp only[pA,pZ,pS,pN]);refine sr 9 10 ?_;refine r1 10 λK hK=>?_;exact om
     go_simp;(go_at_call 208;refine(aI.o _).j ?_;rintro e' E ⟨rfl,s⟩);(try go_wp2_with fail);refine hK.o _ _ (by(try dsimp only);(go_split_ands;refine⟨?_,?_,?_,?_,?_,?_⟩<;>first|exact zab s qk)) λhQ=>?_;replace hHeld:=hQ;clear hK K hQ;(try simp only[pA,pZ,pS,pN]);have ak:Bw wr E:=af.drew.c (s.j Uj);have q4:=zab s (show n.drew.cell? ⟨w1.heap.size,2,none⟩=_ from W);have q5:∀o,(E.alloc o).cell? ⟨w1.heap.size,2,none⟩=_:=λo=>zab Aj q4;refine sr 6 7 ?_;refine r2 1 7 (λK hK=>?_) λK hK=>?_
     focus
      go_simp;refine hK.o _ _ (by(try dsimp only);(go_split_ands;refine⟨?_,?_,?_,?_,?_,?_⟩<;>first|assumption|exact zab s qk)) λhQ=>?_;replace hHeld:=hQ;clear hK K hQ;(try simp only[pA,pZ,pS,pN]);refine r1 7 λK hK=>?_;go_simp;refine hK.o _ _ (by(try dsimp only);(go_split_ands;refine⟨?_,?_,?_,?_,?_,?_⟩<;>first|(simp[go_sem, *];done)|exact zab Aj qk)) λhQ=>?_
     rotate_left
     focus
      go_simp;refine hK.o _ _ (by(try dsimp only);(go_split_ands;refine⟨?_,?_,?_,?_,?_,?_⟩<;>first|(simp[go_sem, *];done)|exact zab Aj qk)) λhQ=>?_;replace hHeld:=hQ;clear hK K hQ;(try simp only[pA,pZ,pS,pN]);refine r1 1 λK hK=>?_;go_simp;refine hK.o _ _ (by(try dsimp only);(go_split_ands;refine⟨?_,?_,?_,?_,?_,?_⟩<;>first|assumption)) λhQ=>?_
     rotate_left
     all_goals
      replace hHeld:=hQ;clear hK K hQ;(try simp only[pA,pZ,pS,pN]);have y:=ak.alloc T9 (.cells (Cm ⟨(k:Int),BJ t,(T:Int),I8⟩).toArray 320);have ai:=y.size;refine r1 8 λK hK=>?_;(refine Hd qi (.tmp 51) (.tmp 57) 243 qi (w1.heap.size+1) 320 _ 6 56 underlying243 SC qi qd _ (BL p.e k).length _ qi (AF HO.o y) (some ⟨_,0,none⟩) 1 1 qi (Cm ⟨(k:Int),BJ t,(T:Int),I8⟩) qi (λe=>qo) (Cv _ _ _ _ qi) (QA _) qj qd qP ?_;intro a3 ay w3 aA C aN;have H:(Value.slice a' (BL p.e k).length c').ownBlock≠some wr.heap.size:=(λe=>Un);have ar:Below (w1.heap.size+1) wr w3:=((y.j qd).grown C.o qP (λg r=>(HO.o.lt g r).1));obtain⟨_,_,m2,_,_,n2⟩:=ah.o.aq ar qd);refine hK.o _ _ (by(try dsimp only);(go_split_ands;refine⟨?_,?_,?_,?_,?_,?_⟩<;>first|exact(Nc C.o H Ui).c qk)) λhQ=>?_;replace hHeld:=hQ;clear hK K hQ;(try simp only[pA,pZ,pS,pN]);refine sr 9 10 ?_;refine r1 10 λK hK=>?_;go_simp;refine hK.o _ _ (by(try dsimp only);(go_split_ands;refine⟨?_,?_,?_,?_,?_,?_⟩<;>first|(simp[go_sem, *];done))) λhQ=>?_;replace hHeld:=hQ;clear hK K hQ;(try simp only[pA,pZ,pS,pN]);refine wpAnyH_done qg ?_ _;refine Ya ?_;have au:w3.ownsRow (w1.heap.size+1) 320 6 (.slice a3 (BL p.e (k+1)).length ay) (BL p.e (k+1)).length ((BL p.e (k+1)).flatMap Cm):=by
       have:=aA.o;rw[ao.o,Yr];simpa[Cm] using this
      have hlen:(BL p.e (k+1)).length=(BL p.e k).length+1:=by rw[ao.o];simp
      obtain⟨u1,u2,u3⟩:=VX ah.o ar au hb;rw[hlen]at u1 u2 u3;go_wp2;go_roundw
      case rel=>exact⟨k+1,a3,ay,qd,qm,by rw[hlen];exact u1,by rw[hlen];exact u2,u3⟩
      case measure=>(simp;omega)
   have ao:Hid (BL p.e (k+1)=BL p.e k++[⟨(k:Int),BJ t, -1,t.val⟩]):=show BL p.e (k+1)=_ from by rw[aJ.o];simp[EM,L,R]
   go_wp2_with (go_at_call 207;refine(D.o _ (N.o _)).rtn λn O=>?_;have x0:At n wr.heap.size 0 (I6 t.u):=zab O ql;have x1:At n wr.heap.size 1 (I6 t.op):=zab O ql;have x2:At n wr.heap.size 2 (.string t.A):=zab O ql;have x3:At n wr.heap.size 3 (I6 t.val.u):=zab O ql;have x4:At n wr.heap.size 4 (I6 t.val.num):=zab O ql;have x5:At n wr.heap.size 5 (.string t.val.J):=zab O ql;have af:Bw wr n:=Aj.thn O;have W:=(ah.o.d af).2.2.1;have aH:=af.size);clear c0 c1 c2 c3 c4 c5 p0 p1 Y O D N L R aM hq;refine wp_region_noPanic ?_;refine wp_region_held_drew (S:=(λw'=>At w' wr.heap.size 0 (I6 t.u)/\At w' wr.heap.size 1 (I6 t.op)/\At w' wr.heap.size 2 (.string t.A)/\At w' wr.heap.size 3 (I6 t.val.u)/\At w' wr.heap.size 4 (I6 t.val.num)/\At w' wr.heap.size 5 (.string t.val.J))) qg ?_ (λhHeld=>?_)
   .exact oP
   refine sr 0 1 ?_;refine sr 2 4 ?_;refine sr 5 7 ?_;refine r2 1 4 (λK hK=>?_) λK hK=>?_
   .go_simp;refine hK.o _ _ (by(try dsimp only);(go_split_ands;refine⟨?_,?_,?_,?_,?_,?_⟩<;>first|(simp[*];done))) λhQ=>?_;replace hHeld:=hQ;clear hK K hQ;(try simp only[pA,pZ,pS,pN]);refine r1 4 λK hK=>?_;go_simp;(go_at_call 208;refine(aI.o _).j ?_;rintro e' E ⟨rfl,s⟩);(try go_wp2_with fail);refine hK.o _ _ (by(try dsimp only);(go_split_ands;refine⟨?_,?_,?_,?_,?_,?_⟩<;>first|exact zab s qk)) λhQ=>?_;replace hHeld:=hQ;clear hK K hQ;(try simp only[pA,pZ,pS,pN]);have ak:Bw wr E:=af.drew.c (s.j Uj);refine sr 7 8 ?_;refine r1 8 λK hK=>?_;go_simp;refine hK.o _ _ (by(try dsimp only);(go_split_ands;refine⟨?_,?_,?_,?_,?_,?_⟩<;>first|(simp[go_sem, *];done)|exact zab Aj qk)) λhQ=>?_;replace hHeld:=hQ;clear hK K hQ;(try simp only[pA,pZ,pS,pN]);have y:=ak.alloc T9 (.cells (Cm ⟨(k:Int),BJ t, -1,t.val⟩).toArray 320);have ai:=y.size;refine r1 9 λK hK=>?_;(refine Hd qi (.tmp 37) (.tmp 44) 243 qi (w1.heap.size+1) 320 _ 6 56 underlying243 SC qi qd _ (BL p.e k).length _ qi (AF HO.o y) (some ⟨_,0,none⟩) 1 1 qi (Cm ⟨(k:Int),BJ t, -1,t.val⟩) qi (λe=>qo) (Cv _ _ _ _ qi) (QA _) qj qd qP ?_;intro a3 ay w3 aA C aN;have H:(Value.slice a' (BL p.e k).length c').ownBlock≠some wr.heap.size:=(λe=>Un);have ar:Below (w1.heap.size+1) wr w3:=((y.j qd).grown C.o qP (λg r=>(HO.o.lt g r).1));obtain⟨_,_,m2,_,_,n2⟩:=ah.o.aq ar qd);refine hK.o _ _ (by(try dsimp only);(go_split_ands;refine⟨?_,?_,?_,?_,?_,?_⟩<;>first|exact(Nc C.o H Ui).c qk)) λhQ=>?_;replace hHeld:=hQ;clear hK K hQ;(try simp only[pA,pZ,pS,pN]);refine sr 10 11 ?_;refine r1 11 λK hK=>?_;exact om
   go_simp;(go_at_call 208;refine(aI.o _).j ?_;rintro e' E ⟨rfl,s⟩);(try go_wp2_with fail);refine hK.o _ _ (by(try dsimp only);(go_split_ands;refine⟨?_,?_,?_,?_,?_,?_⟩<;>first|exact zab s qk)) λhQ=>?_;replace hHeld:=hQ;clear hK K hQ;(try simp only[pA,pZ,pS,pN]);have ak:Bw wr E:=af.drew.c (s.j Uj);have q4:=zab s (show n.drew.cell? ⟨w1.heap.size,2,none⟩=_ from W);have q5:∀o,(E.alloc o).cell? ⟨w1.heap.size,2,none⟩=_:=λo=>zab Aj q4;refine sr 7 8 ?_;refine r2 1 8 (λK hK=>?_) λK hK=>?_
   focus
    go_simp;refine hK.o _ _ (by(try dsimp only);(go_split_ands;refine⟨?_,?_,?_,?_,?_,?_⟩<;>first|assumption|exact zab s qk)) λhQ=>?_;replace hHeld:=hQ;clear hK K hQ;(try simp only[pA,pZ,pS,pN]);refine r1 8 λK hK=>?_;go_simp;refine hK.o _ _ (by(try dsimp only);(go_split_ands;refine⟨?_,?_,?_,?_,?_,?_⟩<;>first|(simp[go_sem, *];done)|exact zab Aj qk)) λhQ=>?_
   rotate_left
   focus
    go_simp;refine hK.o _ _ (by(try dsimp only);(go_split_ands;refine⟨?_,?_,?_,?_,?_,?_⟩<;>first|(simp[go_sem, *];done)|exact zab Aj qk)) λhQ=>?_;replace hHeld:=hQ;clear hK K hQ;(try simp only[pA,pZ,pS,pN]);refine r1 1 λK hK=>?_;go_simp;refine hK.o _ _ (by(try dsimp only);(go_split_ands;refine⟨?_,?_,?_,?_,?_,?_⟩<;>first|assumption)) λhQ=>?_
   rotate_left
   all_goals
    replace hHeld:=hQ;clear hK K hQ;(try simp only[pA,pZ,pS,pN]);have y:=ak.alloc T9 (.cells (Cm ⟨(k:Int),BJ t, -1,t.val⟩).toArray 320);have ai:=y.size;refine r1 9 λK hK=>?_;(refine Hd qi (.tmp 37) (.tmp 44) 243 qi (w1.heap.size+1) 320 _ 6 56 underlying243 SC qi qd _ (BL p.e k).length _ qi (AF HO.o y) (some ⟨_,0,none⟩) 1 1 qi (Cm ⟨(k:Int),BJ t, -1,t.val⟩) qi (λe=>qo) (Cv _ _ _ _ qi) (QA _) qj qd qP ?_;intro a3 ay w3 aA C aN;have H:(Value.slice a' (BL p.e k).length c').ownBlock≠some wr.heap.size:=(λe=>Un);have ar:Below (w1.heap.size+1) wr w3:=((y.j qd).grown C.o qP (λg r=>(HO.o.lt g r).1));obtain⟨_,_,m2,_,_,n2⟩:=ah.o.aq ar qd);refine hK.o _ _ (by(try dsimp only);(go_split_ands;refine⟨?_,?_,?_,?_,?_,?_⟩<;>first|exact(Nc C.o H Ui).c qk)) λhQ=>?_;replace hHeld:=hQ;clear hK K hQ;(try simp only[pA,pZ,pS,pN]);refine sr 10 11 ?_;refine r1 11 λK hK=>?_;go_simp;refine hK.o _ _ (by(try dsimp only);(go_split_ands;refine⟨?_,?_,?_,?_,?_,?_⟩<;>first|(simp[go_sem, *];done))) λhQ=>?_;replace hHeld:=hQ;clear hK K hQ;(try simp only[pA,pZ,pS,pN]);refine wpAnyH_done qg ?_ _;refine Ya ?_;have au:w3.ownsRow (w1.heap.size+1) 320 6 (.slice a3 (BL p.e (k+1)).length ay) (BL p.e (k+1)).length ((BL p.e (k+1)).flatMap Cm):=by
     have:=aA.o;rw[ao.o,Yr];simpa[Cm] using this
    have hlen:(BL p.e (k+1)).length=(BL p.e k).length+1:=by rw[ao.o];simp
    obtain⟨u1,u2,u3⟩:=VX ah.o ar au hb;rw[hlen]at u1 u2 u3;go_wp2;go_roundw
    case rel=>exact⟨k+1,a3,ay,qd,qm,by rw[hlen];exact u1,by rw[hlen];exact u2,u3⟩
    case measure=>(simp;omega)
  have aU:k=p.e.length:=qd;subst aU;obtain⟨o0,o1,o2,_,_,_⟩:=aB;obtain⟨r0,r1,r2,f0,f1,f2⟩:=aP;clear aF;go_wp2;refine bodyPost_ret (v:=.agg #[.string p.z,I6 (p.e.length:Int),.slice a' (BL p.e p.e.length).length c']) (by simp[results,results204,go_sem,r0,r1,r2]) rfl ⟨⟨a',c',by rw[Z.o],?_⟩,?_⟩
  .rw[Z.o];refine CA (Bv HO.o (λg r=>?_)) qd;have aS:=(HO.o.lt g r).1;exact(((GX.setCell (B:=w1.heap.size+1) qd _).c (GX.setCell qd _)).c (GX.setCell qd _)) g aS
  exact((I.setCell qe _).setCell qe _).setCell qe _
end
section
open Go.Maps
def Qj{n}(b:-9223372036854775808<=n)(a:n<=9223372036854775807):(Lit.int .i64 n).wf=true:=by
 simp[Lit.wf,IntKind.min,IntKind.max,IntKind.signed,IntKind.bits];omega
def lS{ts}:∀{k:Nat}{u:Tt},u∈BL ts k->∃i t,i<k/\ts[i]?=some t/\EM ts i t=some u
 |0,u,h=>by simp[BL]at h
 |k+1,u,h=>by
  unfold BL at h
  rcases yn.1 h with h|h
  .obtain⟨i,t,d,b,c⟩:=lS h
   exact⟨i,t,qd,b,c⟩
  cases a:ts[k]? with
  |none=>rw[a]at h;simp at h
  |some t=>
   rw[a]at h
   simp at h
   exact⟨k,t,qd,a,h⟩
def zoA{p}(j:p.z.size<=maxLen)(hv:∀t∈p.e,DO t.val):LQ (C0 p):=by
 unfold C0;split
 .rename_i d;have f:=Vg d;refine⟨j,Qj (n:=(p.e.length:Int)) qd qd,yh (S0 _ _) f,λu hu=>?_⟩;obtain⟨i,t,r,b,hu⟩:=lS hu;have g:=ib d b;have m:=hv t (yd b);have q:1<=BJ t/\BJ t<=6:=by
   unfold BJ;split
   .rename_i hk;have l:t.u=3:=OW;simp[CY,l]at g;omega
   omega
  have O:(Lit.int .i64 (BJ t)).wf=true:=Qj qd qd;have c:(Lit.int .i64 (i:Int)).wf=true:=Qj qd qd;unfold EM at hu;split at hu
  .cases hu
  split at hu
  .injection hu with hu;subst hu;exact⟨⟨c,O,(show(Lit.int .i64 (-1)).wf=true by decide),m⟩,by show BJ t≠0;omega⟩
  cases a:Ai p.e i t.A with
  |none=>rw[a]at hu;cases hu
  |some k=>
   rw[a]at hu;injection hu with hu;subst hu;have hk:k<0+(p.e.take i).length:=QC a;have o:k<6:=by simp at hk;omega
   exact⟨⟨c,O,Qj (n:=(k:Int)) qd qd,(show DO I8 from⟨qh,qh,qh⟩)⟩,by show BJ t≠0;omega⟩
 exact⟨qh,qh,qe,λu hu=>by simp at hu⟩
def GB(w:World)(gb mb:Nat)(v:Value):Prop:=w.heap[gb]?=some (.cells #[.map (some mb),v] 238 (0,0))
def UK(w:World)(b:Nat)(x:FH)(i:Nat):Prop:=w.heap[b]?=some (.cells #[.string x.1.z,.int .i64 x.1.aa,x.2,.int .i64 (i:Int),.slice none 0 0] 247 (0,0))
def GB.G{w a mb v}(h:GB w a mb v):(At w a 0 (.map (some mb))/\At w a 1 v)/\(∀j,w.frozen? ⟨a,j,none⟩=false)/\a<w.heap.size:=by
 unfold GB at h;refine⟨⟨?_,?_⟩,λj=>?_,Ak h⟩<;>simp[World.cell?,World.frozen?,h]
def GB.cK{w a mb v}(h:GB w a mb v)(x):GB (w.setCell ⟨a,1,none⟩ x) a mb x:=by
 have:=Co (i:=1) h x;simpa[GB] using this
def xz{P:World->Prop}{w a mb v y}(O:GB w a mb v)(h:∀wt,GB wt a mb y->Turned w wt a->P wt):P (w.setCell ⟨a,1,none⟩ y):=h _ (O.cK y) (Turned.setCells [y] 1 w a)
def EO(bs:List Nat):List Value:=bs.map λb=>.pointer (some ⟨b,0,none⟩)
structure NS(kl:Al->Lit) (w:World) (base gb mb:Nat) (la:Option Addr) (lc:Nat) (L:List FH) (bs:List Nat) (D:DataW Unit):Prop where
 box:GB w gb mb (.slice la L.length lc)
 map:w.ownsMap prog 323 Bx mb L.length D
 inv:NY kl (L.map Prod.fst) bs D
 row:w.ownsRow base 194 1 (.slice la L.length lc) L.length (EO bs)
 node:∀i x b,L[i]?=some x->bs[i]?=some b->UK w b x i/\base<=b
 aK:∀x∈L,N5 w base x
 bd:(L.map Prod.snd).Pairwise BI
 aW:base<=gb/\base<=mb
def ID{w:World}{k b n D}(h:w.ownsMap prog k Bx b n D):∃es c,w.heap[b]?=some (.map es c):=by
 obtain⟨es,a,d,_⟩:=h;exact⟨es,a,d⟩
def Ig{w w':World}{k b n D}(h:w.ownsMap prog k Bx b n D)(e:w'.heap[b]?=w.heap[b]?):w'.ownsMap prog k Bx b n D:=by
 obtain⟨es,a,f,d⟩:=h;exact⟨es,a,e.c f,d⟩
def NS.C{j w w' base f mb k l L g D}(h:NS j w base f mb k l L g D)(d:Bw w w'):NS j w' base f mb k l L g D:=
 ⟨(d.block f (Ak h.box)).c h.box,Ig h.map (d.block mb h.map.lt),h.inv,AF h.row d,λi x b e a=>⟨(d.block b (Ak (h.node i x b e a).1)).c (h.node i x b e a).1,(h.node i x b e a).2⟩,λx e=>(h.aK x e).C d,h.bd,h.aW⟩
structure Eo(gb mb:Nat) (row:Option Nat) (w w':World):Prop where
 rest:Below 0 w w'
 block:∀k,k<w.heap.size->k≠gb->k≠mb->row≠some k->w'.heap[k]?=w.heap[k]?
def Eo.m{a mb row w w'}(h:Bw w w'):Eo a mb row w w':=⟨h.j (yk _),λk b _ _ _=>h.block k b⟩
def Eo.Q{p w w' base d mb base' f g L l D e m n v xs}(r:Eo d mb (Value.slice f L.length g).ownBlock w w')(h:w.ownsRow base' e m v n xs)(b:NS p w base d mb f g L l D)(q:238≠e)(j:194≠e):w'.ownsRow base' e m v n xs:=
 Bv h λk i=>by
  obtain⟨c,a⟩:=AO h i
  refine r.block k (h.lt k i).2 (λe=>?_) (λe=>?_) (λe=>?_)
  .subst e
   exact Cf b.box a q
  .subst e
   obtain⟨es,t,o⟩:=ID b.map
   rw[o]at a
   cases a
  obtain⟨s,O⟩:=AO b.row e
  exact Cf O a j
def Eo.box{m w w' base d mb f i L k D}{b:Nat}{c t g}(o:Eo d mb (Value.slice f L.length i).ownBlock w w')(h:w.heap[b]?=some (.cells c t g))(a:NS m w base d mb f i L k D)(n:238≠t)(j:194≠t):w'.heap[b]?=some (.cells c t g):=by
 refine(o.block b (Ak h) (λe=>?_) (λe=>?_) (λe=>?_)).c h
 .subst e;exact Cf a.box h n
 .subst e;obtain⟨es,q,l⟩:=ID a.map;rw[l]at h;cases h
 obtain⟨p,O⟩:=AO a.row e;exact Cf O h j
def te:(prog.info? 194).map (λi=>(i.zero,i.size,i.bytes))=some (some (.pointer none),1,8):=qg
def uu(w):(zeroValue 194).run prog w=.ok (.pointer none) w:=qg
def NS.add{A}(K:LM A){w G N l base r mb nb C p J q L R D x o}(h:NS A w base r mb C J L R D)(hx:N5 w base x)(az:∀y∈L,BI y.2 x.2)(U:LQ x.1)(aw:¬DZ x.1 (L.map Prod.fst)<(L.map Prod.fst).length)(ak:UK w nb x L.length)(aq:base<=nb)(Y:G.ownsMap prog 323 Bx mb (L.length+1) (D.put (A x.1) (.lit (.int .i64 (nb:Int)))))(z:w.grownBy G (some mb))(I:N.ownsRow base 194 1 (.slice p (L.length+1) q) (L.length+1) (EO R++[Pn nb]))(j:(G.alloc o).grownBy N (Value.slice C L.length J).ownBlock)(au:GB l r mb (.slice p (L.length+1) q))(f:Turned N l r) :
  NS A l base r mb p q (L++[x]) (R++[nb]) (D.put (A x.1) (.lit (.int .i64 (nb:Int))))/\Eo r mb (Value.slice C L.length J).ownBlock w l:=by
 obtain⟨aF,aD,W⟩:=ID h.map;have aE:=z.size;have ay:=j.size;simp at ay
 -- a block that is none of the QJ stays
 have stay:∀k,k<w.heap.size->k≠r->k≠mb->(Value.slice C L.length J).ownBlock≠some k->l.heap[k]?=w.heap[k]?:=λk g H E h3=>by
  rw[f.block k H,j.block k qf (λe=>h3 e.y),yS _ _ _ qd,z.block k g (λe=>E J1)]
 have ao:r≠mb:=λe=>by have:=h.box;unfold GB at this;rw[e,W]at this;cases this
 have O:∀(k:Nat)(c:Array Value)(t:TypeId)(T:Nat × Nat),w.heap[k]?=some (.cells c t T)->t≠238->t≠194->l.heap[k]?=some (.cells c t T):=λk c t T g H E=>by
  refine(stay k (Ak g) (λe=>?_) (λe=>?_) (λe=>?_)).c g
  .subst e;exact Cf g h.box H
  .subst e;rw[W]at g;cases g
  obtain⟨c',B⟩:=AO h.row e;exact Cf g B E
 have ai:∀{e:TypeId}{m:Nat}{v:Value}{n:Nat}{xs:List Value},w.ownsRow base e m v n xs->e≠238->e≠194->l.ownsRow base e m v n xs:=λho H E=>Bv ho λk g=>by
  obtain⟨c,M⟩:=AO ho g;rw[O k _ _ _ M H E,M]
 have aB:∀k,(Value.slice C L.length J).ownBlock=some k->k≠mb:=λk g e=>by
  obtain⟨c',B⟩:=AO h.row g;rw[e,W]at B;cases B
 refine⟨⟨?_,?_,?_,?_,?_,?_,?_,h.aW⟩,⟨?_,stay⟩⟩
 .simpa using au
 .have:l.ownsMap prog 323 Bx mb (L.length+1) (D.put (A x.1) (.lit (.int .i64 (nb:Int)))):=by
   refine Ig Y ?_;have aA:mb<G.heap.size:=Y.lt;rw[f.block mb (λe=>ao e.y),j.block mb qf (λe=>aB mb e.y rfl),yS _ _ _ aA]
  simpa using this
 .rw[yF];exact h.inv.add K h.map.isMap U aw
 .have h7:l.ownsRow base 194 1 (.slice p (L.length+1) q) (L.length+1) (EO R++[Pn nb]):=Bv I λk g=>f.block k (λe=>by
   obtain⟨c,M⟩:=AO I g;subst e;have aC:N.heap[k]?=G.heap[k]?:=by
    rw[j.block k (by have:=Ak h.box;simp;omega) (λe=>by obtain⟨c',B⟩:=AO h.row e.y;exact Cf h.box B qh),yS _ _ _ (by have:=Ak h.box;omega)]
   rw[aC,z.block k (Ak h.box) (λe=>ao J1)]at M;exact Cf h.box M qh)
  simpa[EO] using h7
 .intro i y b d s;have Z:=h.inv.len;simp at Z;by_cases hi:i<L.length
  .rw[yr hi]at d;rw[yr qd]at s;exact⟨O b _ _ _ (h.node i y b d s).1 qh qh,(h.node i y b d s).2⟩
  have ax:i=L.length:=by
   have:=(ye.1 d).1;simp at this;omega
  subst ax;simp at d;subst d;rw[yx qd,Z,KM]at s;simp at s;subst s;exact⟨O nb _ _ _ ak qh qh,aq⟩
 .intro y d;rcases yn.1 d with d|d
  .exact⟨(h.aK y d).1,ai (h.aK y d).2 qh qh⟩
  simp at d;subst d;exact⟨hx.1,ai hx.2 qh qh⟩
 .rw[yF,Y9];refine⟨h.bd,qe,λu hu v hv=>?_⟩;obtain⟨y,d,rfl⟩:=yz.1 hu;simp at hv;subst hv;exact az y d
 refine⟨?_,?_,?_,?_,λk g=>qd⟩
 .exact(f.os.c j.os).c z.os
 .exact(f.tape.c j.tape).c z.tape
 .exact(f.output.c j.output).c z.output
 rw[f.size];omega
end
section
open Go.Maps
attribute [local go_sem ↓] wp_at_zero wp_at_succ
def tJ(kl:Al->Lit)(base gb mb:Nat)(la:Option Addr)(lc:Nat)(L:List FH)(bs:List Nat)(p:Pt)(w:World)(e:Ending)(w':World):Prop:=
 ∃la' lc' L' bs' D' b,e=.returned (.pointer (some ⟨b,0,none⟩))/\NS kl w' base gb mb la' lc' L' bs' D'/\L'.map Prod.fst=Fe (L.map Prod.fst) (C0 p)/\bs'[DZ (C0 p) (L.map Prod.fst)]?=some b/\Eo gb mb (Value.slice la L.length lc).ownBlock w w'/\(∀(i n:Nat),bs[i]?=some n->bs'[i]?=some n)/\(∀g,(Value.slice la' L'.length lc').ownBlock=some g->(Value.slice la L.length lc).ownBlock=some g∨w.heap.size<=g)
def Eo.bQ{a mb row u v w}(h:Bw u v)(k:Eo a mb row v w):Eo a mb row u w:=⟨(h.j (yk _)).c k.rest,λj hj e b d=>(k.block j (yg hj h.size) e b d).c (h.block j hj)⟩
def ug{P:World->Prop}{w0 u o}(hu:Bw w0 u)(a:u.heap[w0.heap.size]?=some o)(h:∀wt,Bw w0 wt->wt.heap[w0.heap.size]?=some o->P wt):P u:=h u hu a
def ZK(h:P:=by
 refine' yieldsIf_load_mid (by rfl) _ _ rfl _ _ rfl _ _ ?hS ?hu ?hd ?hj
 case hS=>(intro w am;exact am.2)
 case hu=>exact aB
 case hd=>rfl
 case hj=>exact ar
 ):=h
def sx(kl)(K:LM kl)(p az aH){q}(base r mb A E L T D w)(hN:NS kl w base r mb A E L T D)(aN:E_ q w az p.e)(ac:p.z.size<=maxLen)(a0:EW Tm.le maxLen p.e)(bh:p.e.length<=1048576)(bl:p.e.length<=aH)(aR:∀t∈p.e,DO t.val)(hL:L.length<=1000)(hbase:base<=w.heap.size) :
  Ca 149 #[.pointer (some ⟨r,0,none⟩),.agg #[.bool p.neg,.string p.z,.slice az p.e.length aH]] w (tJ kl base r mb A E L T p w):=by
 obtain⟨HN,HT,aV,Y,HA⟩:=DE hN aN a0 (zoA ac aR) (λo=>An.alloc AH o:∀o,Bw w (w.alloc o));have aB:=underlying323;clear hN aN a0 aR;go_enter func149,ntmps149;go_wp2_with fail;refine(zkZ p az aH _ (HT.o.d (HA.o _)) ac aV.o bh bl).j ?_;rintro e B ⟨⟨a1,s,rfl,aW⟩,ax⟩;obtain⟨N1,B1⟩:=Ah ((HN.o.C (HA.o _)).C ax) ((HA.o _).c (ax.j (HA.o _).size));have ag:=ax.size;simp at ag;have aI:=Aa (CA aW (show w.heap.size<=_ by simp));obtain⟨X,hX⟩:∃X,X=C0 p:=⟨_,rfl⟩
 have aP:X.x.length<=6:=by rw[hX];exact Tp p
 rw[<-hX]at aI Y⊢;have ay:=Aa hX;clear hX aW ax HA HT aV;go_upto_region 2 with fail;refine Be ?_;intro w2 ao aC;obtain⟨g0,g1,g2⟩:=Ao aC;obtain⟨N2,B2,aF⟩:=AA (N1.o.C ao) (B1.o.thn ao) (AF aI.o ao);have bp:=ao.size;have bu:B.heap.size<w2.heap.size:=Ak aC;clear ao aC N1 B1 aI;go_wp2_with fail;refine(vj X a1 s w2 (E9.owns aF.o) aP).rtn λH af=>?_;have a6:(Ct X).length=38:=by unfold Ct;rw[Qy,P6 _ aP]
 have HLK:=Aa a6;have bc:=zab af g0;have aM:=zab af g1;have a9:=zab af g2;obtain⟨N3,B3,a4⟩:=AA (N2.o.C af) (B2.o.thn af) (AF aF.o af);have bt:=af.size;clear a6 g0 g1 g2 af N2 B2 aF;go_upto_region 3 with(refine C7 qi 323 (.tmp 6) (.tmp 12) qi H.heap.size (Ct X) qi qi _ 323 (EA _ _ _ rfl) (by rw[HLK.o];rfl) (by rw[HLK.o];exact Oj) (XL _ _ _) ?_;intro f aE aZ);have O:Bw H f:=Aj.c (aZ.o.d AH);have G0:=zab O bc;have G1:=zab O aM;have G2:=zab O a9;obtain⟨R,B4,aO⟩:=AA (N3.o.C O) (B3.o.thn O) (AF a4.o O);have bq:=O.size;have U:=Aa (JS aE.o);have bo:H.heap.size<f.heap.size:=Ak aE.o;have ar:(prog.info? 323).map (·.size)=some (Ct X).length:=by rw[HLK.o];exact Oj
 obtain⟨⟨m0,m1⟩,_,aA⟩:=R.o.box.G;obtain⟨v,ps,aq,hv⟩:=(R.o.map.drew).look_ok RR (t:=235) underlying235 (uu _) (show Bx (.pointer none)=some (zP,[]) from rfl) (K X Y.o);have bi:(L.map Prod.fst).length=L.length:=qe;clear bc aM a9 O N3 B3 a4 aZ aE;by_cases W:DZ X (L.map Prod.fst)<(L.map Prod.fst).length
 .obtain⟨b,hb⟩:∃b,T[DZ X (L.map Prod.fst)]?=some b:=⟨T[DZ X (L.map Prod.fst)]'(by rw[R.o.inv.len];exact W),qe⟩
  obtain⟨hy1,hy2⟩:=R.o.inv.cy X b Y.o hb;rw[hy1]at aq;rw[hy2]at hv;have bf:=jP hv;subst bf;obtain⟨HB,au⟩:=Ah hb W;clear hv hy1 hy2 hb W;refine wp_region_noPanic ?_;refine wp_region_held_drew (S:=(λw'=>w'.cell? ⟨r,0,none⟩=some (.map (some mb))/\w'.rangeAt H.heap.size 0 (Ct X))) qg ?_ (λhHeld=>?_)
  ·(try dsimp only);exact⟨m0,U.o⟩
  refine sr 0 4 ?_;refine wpAnyH_take (i:=4) (oi:=?oi1) (v:=?v1) ?hi1 qg qg qg (λ_ _ _ h=>h) ?yl1 hHeld ?rest1
  case hi1=>(simp only[ym,yw,yv];rfl)
  case yl1=>
   exact ZK
  (try simp only[Act.put,yo,yB,yC]);refine r1 5 λK N=>?_;go_simp;refine N.o _ _ (by(try dsimp only);exact⟨m0,U.o⟩) λhQ=>?_;replace hHeld:=hQ;clear N K hQ;(try simp only[Act.put,yo,yB,yC]);refine sr 6 11 ?_;refine wpAnyH_done qg ?_ _;refine Ya ?_;go_wp2_with fail
  go_ret;exact⟨A,E,L,T,D,b,rfl,R.o.C An.drew,by rw[<-ay.o,jx au.o],by rw[<-ay.o];exact HB.o,Eo.m (B4.o.c An.drew),λ_ _ h=>h,λ_ h=>.inl h⟩
 have a5:=R.o.inv.no X Y.o W;rw[a5]at aq;have au:=Aa W;clear hv a5 W;refine wp_region_noPanic ?_;refine wp_region_held_drew (S:=(λw'=>w'.cell? ⟨r,0,none⟩=some (.map (some mb))/\w'.rangeAt H.heap.size 0 (Ct X))) qg ?_ (λhHeld=>?_)
 ·(try dsimp only);exact⟨m0,U.o⟩
 refine sr 0 4 ?_;refine wpAnyH_take (i:=4) (oi:=?oi3) (v:=?v3) ?hi3 qg qg qg (λ_ _ _ h=>h) ?yl3 hHeld ?rest3
 case hi3=>(simp only[ym,yw,yv];rfl)
 case yl3=>
  exact ZK
 (try simp only[Act.put,yo,yB,yC]);refine r1 5 λK N=>?_;go_simp;refine N.o _ _ (by(try dsimp only);exact⟨m0,U.o⟩) λhQ=>?_;replace hHeld:=hQ;clear N K hQ;(try simp only[Act.put,yo,yB,yC]);refine sr 6 11 ?_;refine wpAnyH_done qg ?_ _;refine Ya ?_;go_upto_region 5 with fail
 have ak:=Aa (λo=>An.alloc AH o:∀o,Bw f (f.alloc o));clear aq;have D0:f.drew.drew.cell? ⟨B.heap.size,0,none⟩=some (.string X.z):=G0;have E0:∀o,(f.alloc o).drew.drew.cell? ⟨B.heap.size,0,none⟩=some (.string X.z):=λo=>zab (ak.o o).drew.drew G0;have D1:f.drew.drew.cell? ⟨B.heap.size,1,none⟩=some (.int .i64 X.aa):=G1;have E1:∀o,(f.alloc o).drew.drew.cell? ⟨B.heap.size,1,none⟩=some (.int .i64 X.aa):=λo=>zab (ak.o o).drew.drew G1;have D2:f.drew.drew.cell? ⟨B.heap.size,2,none⟩=some (.slice a1 X.x.length s):=G2;have E2:∀o,(f.alloc o).drew.drew.cell? ⟨B.heap.size,2,none⟩=some (.slice a1 X.x.length s):=λo=>zab (ak.o o).drew.drew G2;have D3:f.drew.drew.cell? ⟨r,1,none⟩=some (.slice A L.length E):=m1;have E3:∀o,(f.alloc o).drew.drew.cell? ⟨r,1,none⟩=some (.slice A L.length E):=λo=>zab (ak.o o).drew.drew m1
 go_region_held3 (λw'=>w'.cell? ⟨B.heap.size,0,none⟩=some (.string X.z)/\w'.cell? ⟨B.heap.size,1,none⟩=some (.int .i64 X.aa)/\w'.cell? ⟨B.heap.size,2,none⟩=some (.slice a1 X.x.length s)/\w'.cell? ⟨r,1,none⟩=some (.slice A L.length E)) (first|with_reducible exact⟨D0,D1,D2,D3⟩|with_reducible exact⟨E0 _,E1 _,E2 _,E3 _⟩) (fail)
 go_upto_region 6 with fail
 refine ug (w0:=f) (o:=.cells #[.string X.z,.int .i64 X.aa,.slice a1 X.x.length s,.int .i64 (L.length:Int),.slice none 0 0] 247) ((ak.o _).drew.drew) (heap_alloc_new _ _) ?_;intro w5 Z aD;obtain⟨I,bm,B5,a3,a8⟩:=DE (R.o.C Z) (show UK w5 f.heap.size (X,.slice a1 X.x.length s) L.length from aD) (B4.o.thn Z) (AF aO.o Z) (show w5.rangeAt H.heap.size 0 (Ct X) fromλj u hu=>zab Z (U.o j u hu));have bw:=Z.size;have bv:f.heap.size<w5.heap.size:=Ak aD;clear D0 D1 D2 D3 E0 E1 E2 E3;clear Z aD G0 G1 G2 m0 m1 aA B4 aO U ak;obtain⟨⟨m0,m1⟩,_,aA⟩:=I.o.box.G;obtain⟨br,bz,aJ⟩:=ID I.o.map;have bj:r≠mb:=λe=>by have:=I.o.box;unfold GB at this;rw[e,aJ]at this;cases this
 have bn:H.heap.size≠mb:=λe=>by have:=R.o.map.lt;have h2:=HN.o.map.lt;omega
 obtain⟨M,aG,aL,ah⟩:=(I.o.map.drew).update RR (t:=235) underlying235 qj (K X Y.o) (ig f.heap.size);obtain⟨M6,aw⟩:=Ah aL (show w5.grownBy M (some mb) from⟨ah.os,ah.tape,ah.output,ah.size,ah.block⟩);have bA:w5.heap.size<=M.heap.size:=ah.size;obtain⟨aK,bk,R6⟩:=AA (show GB M r mb (.slice A L.length E) from(aw.o.block r aA (λe=>bj J1)).c I.o.box) (show M.rangeAt H.heap.size 0 (Ct X) fromλj u hu=>(yR (w:=w5) (aw.o.block H.heap.size qd (λe=>bn J1))).c (a8.o j u hu)) (show M.ownsRow base 194 1 (.slice A L.length E) L.length (EO T) from Bv I.o.row λk hk=>aw.o.block k (I.o.row.lt k hk).2 (λe=>by injection e with e;obtain⟨c',aT⟩:=AO I.o.row hk;rw[e,aJ]at aT;cases aT));obtain⟨⟨k0,k1⟩,_,aQ⟩:=aK.o.G;clear aL ah aJ;refine wp_region_noPanic ?_;refine wp_region_held_drew (S:=(λw'=>w'.cell? ⟨r,0,none⟩=some (.map (some mb))/\w'.rangeAt H.heap.size 0 (Ct X))) qg ?_ (λhHeld=>?_)
 ·(try dsimp only);exact⟨m0,a8.o⟩
 refine sr 0 4 ?_;refine wpAnyH_take (i:=4) (oi:=?oi5) (v:=?v5) ?hi5 qg qg qg (λ_ _ _ h=>h) ?yl5 hHeld ?rest5
 case hi5=>(simp only[ym,yw,yv];rfl)
 case yl5=>
  exact ZK
 (try simp only[Act.put,yo,yB,yC]);refine sr 5 6 ?_;refine r1 6 λK N=>?_;go_simp;refine N.o _ _ (by(try dsimp only);exact⟨k0,bk.o⟩) λhQ=>?_;replace hHeld:=hQ;clear N K hQ;(try simp only[Act.put,yo,yB,yC]);refine wpAnyH_done qg ?_ _;refine Ya ?_;have HW:=Aa (λo=>An.alloc AH o:∀o,Bw M (M.alloc o));obtain⟨bg,TY⟩:=Ah (λo=>show GB (M.alloc o) r mb (.slice A L.length E) from((HW.o o).block r aQ).c aK.o) (λo k hk=>AO (AF R6.o (HW.o o)) (k:=k) hk);clear m0 m1 aG;go_upto_region 8 with(first|(at_builtin;refine CN qi (.tmp 42) (.tmp 44) 236 qi base 194 _ 1 8 underlying236 te qi qd _ L.length _ qi (AF R6.o (HW.o _)) (some ⟨_,0,none⟩) 1 1 qi [.pointer (some ⟨f.heap.size,0,none⟩)] qi (λe=>qo) (Cv _ _ _ _ qe) qL qj qd qf ?_;intro a7 c7 w7 ae ab al;have aS:=Aa (show GB w7 r mb (.slice A L.length E) from Ef (bg.o _) ab.o (TY.o _) qh);obtain⟨⟨l0,l1⟩,z,_⟩:=aS.o.G;have z1:=z 1;clear z)|fail);refine xz aS.o ?_;intro w8 aX ad;have hR:=NS.add K (x:=(X,.slice a1 X.x.length s)) I.o ⟨⟨a1,s,rfl⟩,CA a3.o hbase⟩ (λy hy g J bd=>by have h1:=((HN.o.aK y hy).2.lt g J).2;have h2:=(a3.o.lt g bd).1;omega) Y.o au.o bm.o qd M6.o aw.o ae.o ab.o aX ad;have HR:=Aa hR;have aU:T.length=L.length:=by have:=I.o.inv.len;simpa using this
 have aY:=Aa aU;clear hR aU aX ad;go_wp2_with fail;go_ret;refine⟨a7,c7,L++[(X,.slice a1 X.x.length s)],T++[f.heap.size],_,f.heap.size,rfl,HR.o.1,?_,?_,Eo.bQ B5.o HR.o.2,λi n h=>by rw[yr (ye.1 h).1];exact h,?_⟩
 .rw[<-ay.o,jy au.o];simp
 .rw[<-ay.o,kT au.o,bi,yx (WK aY.o),aY.o,KM];rfl
 intro g J;rw[yP]at J;rcases al.o with h|h
 .rw[show L.length+[(X,Value.slice a1 X.x.length s)].length=L.length+1 from rfl,h]at J;exact .inl J
 rw[show L.length+[(X,Value.slice a1 X.x.length s)].length=L.length+1 from rfl,h]at J;injection J with J;have h5:=B5.o.size;simp at J;exact .inr qd
def Pe(t:TypeId):Prop:=t=238∨t=194∨t=247∨t=320
def NS.aj{r w w' base l mb p u L q D}(h:NS r w base l mb p u L q D)(o:∀k,k<w.heap.size->(∀c t a,w.heap[k]?=some (Obj.cells c t a)->Pe t)->w'.heap[k]?=w.heap[k]?):NS r w' base l mb p u L q D:=by
 have key:∀(k:Nat)(c:Array Value)(t:TypeId)(a:Nat × Nat),w.heap[k]?=some (.cells c t a)->Pe t->w'.heap[k]?=some (.cells c t a):=λk c t a f C=>(o k (Ak f) (λE t' H O=>by rw[f]at O;injection O with O;injection O with _ B;rw[<-B];exact C)).c f;have s:∀{e:TypeId}{m:Nat}{v:Value}{n:Nat}{xs:List Value},w.ownsRow base e m v n xs->Pe e->w'.ownsRow base e m v n xs:=λy z=>Bv y λk f=>by
  obtain⟨c,j⟩:=AO y f;rw[key k _ _ _ j z,j]
 refine⟨key _ _ _ _ h.box (.inl rfl),?_,h.inv,s h.row (.inr (.inl rfl)),λi x b d g=>⟨key _ _ _ _ (h.node i x b d g).1 (.inr (.inr (.inl rfl))),(h.node i x b d g).2⟩,λx d=>⟨(h.aK x d).1,s (h.aK x d).2 (.inr (.inr (.inr rfl)))⟩,h.bd,h.aW⟩;obtain⟨es,G,A⟩:=ID h.map;exact Ig h.map (o mb h.map.lt (λc t a j=>by rw[A]at j;cases j))
def NS.grown{f w w' base b mb g i L d D t row}(h:NS f w base b mb g i L d D)(m:w.grownBy w' row)(j:∀k,row=some k->∃c,w.heap[k]?=some (.cells c t (0,0)))(a:¬Pe t):NS f w' base b mb g i L d D:=
 h.aj λk l O=>m.block k l (λe=>by
  obtain⟨c,n⟩:=j k e.y
  exact a (O _ _ _ n))
def Eo.d{a mb B row w w'}(h:Eo a mb row w w')(O:B<=w.heap.size)(f:B<=a)(c:B<=mb)(b:∀k,row=some k->B<=k):Below B w w':=
 ⟨h.rest.os,h.rest.tape,h.rest.output,h.rest.size,λk g=>h.block k qd qd qd (λe=>by have:=b k e;omega)⟩
def nC{P}(t w):(Instr.makeMap t none).run P w=.ok (.map (some w.heap.size)) (w.alloc (.map #[] 0)):=by
 simp[Instr.makeMap]
def mu(a w):Ca 89 #[] w λe w'=>e=.returned (Pn (w.heap.size+1))/\NS a w' w.heap.size (w.heap.size+1) w.heap.size none 0 [] [] (.map [])/\Bw w w':=by
 have O:=nC (P:=prog) 235;go_enter func89,ntmps89;go_wp2_with fail;go_ret;refine⟨rfl,⟨?_,?_,NY.start a,yN _ _ _ _,λi x b hx=>qB,λx hx=>qB,List.Pairwise.nil,qd⟩,Aj.alloc qe _⟩
 .exact EA _ _ _ qe
 exact Ig (Wh w prog 323 Bx) (yS _ _ _ qe)
def EI(w:World)(b:Nat)(x:FH)(i:Nat)(v:Value):Prop:=w.heap[b]?=some (.cells #[.string x.1.z,.int .i64 x.1.aa,x.2,.int .i64 (i:Int),v] 247 (0,0))
def EI.G{w b x i v}(h:EI w b x i v):(At w b 0 (.string x.1.z)/\At w b 1 (I6 x.1.aa)/\At w b 2 x.2/\At w b 4 v)/\w.frozen? ⟨b,4,none⟩=false/\b<w.heap.size:=by
 unfold EI at h;refine⟨⟨?_,?_,?_,?_⟩,?_,Ak h⟩<;>simp[World.cell?,World.frozen?,h]
def EI.ec{w b x i v}(h:EI w b x i v)(y):EI (w.setCell ⟨b,4,none⟩ y) b x i y:=by
 have:=Co (i:=4) h y;simpa[EI] using this
def XM{P:World->Prop}{w b x i v y}(O:EI w b x i v)(h:∀wt,EI wt b x i y->Turned w wt b->P wt):P (w.setCell ⟨b,4,none⟩ y):=h _ (O.ec y) (Turned.setCells [y] 4 w b)
def EI.num{w b x y i j u v}(h:EI w b x i u)(k:EI w b y j v):i=j:=by
 unfold EI at h k;rw[h]at k;simp at k;omega
def Cg(x:Al)(Q:List (Value × F)):List (Value × F):=Q.filter (λy=>Ae x y.2)
def mh{x Q p f}(h:Ae x f=true):Cg x (Q++[(p,f)])=Cg x Q++[(p,f)]:=by
 unfold Cg;rw[yM];simp[h]
def zhf{x Q p f}(h:Ae x f=false):Cg x (Q++[(p,f)])=Cg x Q:=by
 unfold Cg;rw[yM];simp[h]
structure Dr(base:Nat) (w w':World):Prop where
 rest:Below base w w'
 kept:∀(k:Nat)(c:Array Value)(t:TypeId)(fr:Nat × Nat),w.heap[k]?=some (.cells c t fr)->t≠247->t≠106->w'.heap[k]?=some (.cells c t fr)
 maps:∀(k:Nat)(o:Obj),w.heap[k]?=some o->(∀c t fr,o≠.cells c t fr)->w'.heap[k]?=some o
def Dr.refl(base w):Dr base w w:=⟨An,λ_ _ _ _ h _ _=>h,λ_ _ h _=>h⟩
def Dr.c{base u v w}(h:Dr base u v)(k:Dr base v w):Dr base u w:=⟨h.rest.c k.rest,λj c t d hj b a=>k.kept j c t d (h.kept j c t d hj b a) b a,λj o hj O=>k.maps j o (h.maps j o hj O) O⟩
def Dr.m{base w w'}(h:Bw w w')(b:base<=w.heap.size):Dr base w w':=⟨h.j b,λk _ _ _ a _ _=>(h.block k (Ak a)).c a,λk _ a _=>(h.block k (yj.1 a).1).c a⟩
def Dr.Q{base B w w' e m v n xs}(h:Dr base w w')(O:w.ownsRow B e m v n xs)(d:e≠247)(b:e≠106):w'.ownsRow B e m v n xs:=
 Bv O λk f=>by
  obtain⟨c,a⟩:=AO O f
  rw[h.kept k _ _ _ a d b,a]
structure NF(w:World) (base gb mb:Nat) (la:Option Addr) (lc:Nat) (L:List FH) (bs:List Nat) (V:List Value) (QQ:Nat->List (Value × F)):Prop where
 box:GB w gb mb (.slice la L.length lc)
 row:w.ownsRow base 194 1 (.slice la L.length lc) L.length (EO bs)
 aX:bs.length=L.length
 aL:V.length=L.length
 node:∀(i:Nat)(x:FH)(b:Nat)(v:Value),L[i]?=some x->bs[i]?=some b->V[i]?=some v->EI w b x i v/\base<=b/\(∃fa fc,v=.slice fa (Cg x.1 (QQ i)).length fc)/\w.ownsRow base 106 1 v (Cg x.1 (QQ i)).length ((Cg x.1 (QQ i)).map Prod.fst)
 aK:∀x∈L,N5 w base x
 apart:∀(i j:Nat)(u v:Value),V[i]?=some u->V[j]?=some v->i≠j->BI u v
def NF.C{w w' base d mb k l L g V QQ}(h:NF w base d mb k l L g V QQ)(a:Bw w w'):NF w' base d mb k l L g V QQ:=
 ⟨(a.block d (Ak h.box)).c h.box,AF h.row a,h.aX,h.aL,λi x b v e f hv=>by
  obtain⟨j,m,n,o⟩:=h.node i x b v e f hv
  exact⟨(a.block b (Ak j)).c j,m,n,AF o a⟩,λx e=>(h.aK x e).C a,h.apart⟩
def NF.same{w base c mb e g L d V QQ O}(h:NF w base c mb e g L d V QQ)(j:∀i x,L[i]?=some x->Cg x.1 (QQ i)=Cg x.1 (O i)):NF w base c mb e g L d V O:=
 ⟨h.box,h.row,h.aX,h.aL,λi x b v f a hv=>by
  rw[<-j i x f]
  exact h.node i x b v f a hv,h.aK,h.apart⟩
def NF.dw{m w base a mb f l L c D}(h:NS m w base a mb f l L c D):NF w base a mb f l L c (List.replicate L.length (.slice none 0 0)) (λ_=>[]):=by
 refine⟨h.box,h.row,by have:=h.inv.len;simpa using this,qe,λi x b v k d hv=>?_,h.aK,λi j u v hu hv _ g n=>?_⟩
 .have e:=Wt (yd hv);subst e;exact⟨(h.node i x b k d).1,(h.node i x b k d).2,⟨none,0,rfl⟩,yN _ _ _ _⟩
 have e:=Wt (yd hu);subst e;cases n
def rF(h:P:=by
 obtain⟨n1,n2,n3,n4⟩:=h.node m x b v hx hb hv;have aw:m<V.length:=(ye.1 hv).1;have aA:=hg7.size
 first
  | (have _:=tP
     simp at aA;have stay:∀k,k<w.heap.size->k≠b->v.ownBlock≠some k->w8.heap[k]?=w.heap[k]?:=λk hk h1 h2=>by
       rw[ht8.block k h1,hg7.block k (by simp;omega) (λe=>h2 e.y),yS _ _ _ hk])
  | (have stay:∀k,k<w.heap.size->k≠b->v.ownBlock≠some k->w8.heap[k]?=w.heap[k]?:=λk hk h1 h2=>by
       rw[ht8.block k h1,hg7.block k hk (λe=>h2 e.y)])
 have ai:∀(k:Nat)(c:Array Value)(t:TypeId)(fr:Nat × Nat),w.heap[k]?=some (.cells c t fr)->t≠247->t≠106->w8.heap[k]?=some (.cells c t fr):=λk c t fr hk h1 h2=>by
  refine(stay k (Ak hk) (λe=>?_) (λe=>?_)).c hk
  .subst e;exact Cf hk n1 h1
  obtain⟨c',O⟩:=AO n4 e;exact Cf hk O h2
 have am:∀{e:TypeId}{m:Nat}{v:Value}{n:Nat}{xs:List Value},w.ownsRow base e m v n xs->e≠247->e≠106->w8.ownsRow base e m v n xs:=λho h1 h2=>Bv ho λk hk=>by
  obtain⟨c,hc⟩:=AO ho hk;rw[ai k _ _ _ hc h1 h2,hc]
 have az:b<w.heap.size:=n1.G.2.2;have ao:∀(i:Nat)(u:Value),V[i]?=some u->i≠m->∃(x':FH)(b':Nat),L[i]?=some x'/\bs[i]?=some b':=λi u hu _=>by
  have hi:i<V.length:=(ye.1 hu).1;have e1:=h.aL;have e2:=h.aX;exact⟨L[i]'(by omega),bs[i]'(by omega),by simp,by simp⟩
 first
  | (have _:=tP
     have ak:∀(i:Nat)(u:Value),V[i]?=some u->i≠m->∀g,u.ownBlock=some g->(Value.slice fa ((Cg x.1 (QQ m)).length+1) fc).ownBlock≠some g:=λi u hu hi g hg af=>by
       obtain⟨x',b',ah,hb'⟩:=ao i u hu hi;have aB:=((h.node i x' b' u ah hb' hu).2.2.2.lt g hg).2;rcases hl7 with hl|hl
       · rw[hl]at af
         exact h.apart i m u v hu hv hi g hg af
       · rw[hl]at af
         injection af with af;simp at af;omega)
  | (have ak:∀(i:Nat)(u:Value),V[i]?=some u->i≠m->∀g,u.ownBlock=some g->(Value.slice fa (Cg x.1 Q').length fc).ownBlock≠some g:=λi u hu hi g hg af=>by
       obtain⟨x',b',ah,hb'⟩:=ao i u hu hi;have aB:=((h.node i x' b' u ah hb' hu).2.2.2.lt g hg).2;exact h.apart i m u v hu hv hi g hg (hl7 g af))
 have ax:∀(k:Nat)(o:Obj),w.heap[k]?=some o->(∀c t fr,o≠.cells c t fr)->w8.heap[k]?=some o:=λk o hk ho=>by
  refine(stay k (yj.1 hk).1 (λe=>?_) (λe=>?_)).c hk
  .subst e;have ar:=n1;unfold EI at ar;rw[hk]at ar;cases ar;exact ho _ _ _ rfl
  obtain⟨c',O⟩:=AO n4 e;rw[hk]at O;cases O;exact ho _ _ _ rfl
 refine⟨⟨ai gb _ _ _ h.box (by decide) (by decide),am h.row (by decide) (by decide),h.aX,by simp[h.aL],λi x' b' u ah hb' hu=>?_,λy hy=>⟨(h.aK y hy).1,am (h.aK y hy).2 (by decide) (by decide)⟩,λi j u u' hu aj au=>?_⟩,⟨?_,ai,ax⟩⟩
 .by_cases hi:i=m
  .subst hi;rw[hx]at ah;rw[hb]at hb';cases ah;cases hb';rw[Y2 aw]at hu;cases hu;refine⟨hN8,n2,⟨fa,fc,?_⟩,?_⟩
   . first
     | (have _:=tP
        simp[mh hp])
     |(simp)
   first
    | (have _:=tP
       have aq:w8.ownsRow base 106 1 (.slice fa ((Cg x.1 (QQ i)).length+1) fc) ((Cg x.1 (QQ i)).length+1) ((Cg x.1 (QQ i)).map Prod.fst++[p]):=Bv ho7 λk hk=>ht8.block k (λe=>by
         obtain⟨c,hc⟩:=AO ho7 hk;subst e;have ay:w7.heap[k]?=w.heap[k]?:=by
           rw[hg7.block k (by simp;omega) (λe=>by obtain⟨c',O⟩:=AO n4 e.y;exact Cf n1 O (by decide)),yS _ _ _ az]
         rw[ay]at hc;exact Cf n1 hc (by decide))
       simpa[mh hp] using aq)
    | (have aq:w8.ownsRow base 106 1 (.slice fa (Cg x.1 Q').length fc) (Cg x.1 Q').length ((Cg x.1 Q').map Prod.fst):=Bv ho7 λk hk=>ht8.block k (λe=>by
         obtain⟨c,hc⟩:=AO ho7 hk;subst e;have ay:w7.heap[k]?=w.heap[k]?:=by
           rw[hg7.block k az (λe=>by obtain⟨c',O⟩:=AO n4 e.y;exact Cf n1 O (by decide))]
         rw[ay]at hc;exact Cf n1 hc (by decide))
       simpa using aq)
  rw[YN (λe=>hi e.y)]at hu;obtain⟨k1,k2,k3,k4⟩:=h.node i x' b' u ah hb' hu;simp only[if_neg hi];refine⟨(stay b' (Ak k1) (λe=>?_) (λe=>?_)).c k1,k2,k3,?_⟩
  .subst e;exact hi (k1.num n1)
  .obtain⟨c',O⟩:=AO n4 e;exact Cf k1 O (by decide)
  refine Bv k4 λk hk=>stay k (k4.lt k hk).2 (λe=>?_) (λe=>h.apart i m u v hu hv hi k hk e);subst e;obtain⟨c',O⟩:=AO k4 hk;exact Cf n1 O (by decide)
 .by_cases hi:i=m
  .subst hi;rw[Y2 aw]at hu;rw[YN au]at aj;cases hu;intro g hg af;exact ak j u' aj (λe=>au e.y) g af hg
  rw[YN (λe=>hi e.y)]at hu;by_cases hj:j=m
  .subst hj;rw[Y2 aw]at aj;cases aj;exactλg hg=>ak i u hu hi g hg
  rw[YN (λe=>hj e.y)]at aj;exact h.apart i j u u' hu aj au
 . first
   | (have _:=tP
      refine(((yX base w).alloc hbase _).grown hg7 (by simp;omega) (λk hk=>(n4.lt k hk).1)).c (ht8.d n2))
   |(refine((yX base w).grown hg7 hbase (λk hk=>(n4.lt k hk).1)).c (ht8.d n2))
 ):=h
def NF.push{w w7 w8 base gb mb a l L bs V QQ m b x v p f o fa fc}(h:NF w base gb mb a l L bs V QQ)(hx:L[m]?=some x)(hb:bs[m]?=some b)(hv:V[m]?=some v)(hp:Ae x.1 f=true)(hbase:base<=w.heap.size)(ho7:w7.ownsRow base 106 1 (.slice fa ((Cg x.1 (QQ m)).length+1) fc) ((Cg x.1 (QQ m)).length+1) ((Cg x.1 (QQ m)).map Prod.fst++[p]))(hg7:(w.alloc o).grownBy w7 v.ownBlock)(hl7:(Value.slice fa ((Cg x.1 (QQ m)).length+1) fc).ownBlock=v.ownBlock∨(Value.slice fa ((Cg x.1 (QQ m)).length+1) fc).ownBlock=some (w.alloc o).heap.size)(hN8:EI w8 b x m (.slice fa ((Cg x.1 (QQ m)).length+1) fc))(ht8:Turned w7 w8 b) :
  NF w8 base gb mb a l L bs (V.set m (.slice fa ((Cg x.1 (QQ m)).length+1) fc)) (λi=>if i=m then QQ m++[(p,f)] else QQ i)/\Dr base w w8:=by
 have tP:=trivial;exact rF
def gd:(prog.info? 106).map (λi=>(i.zero,i.size,i.bytes))=some (some (.pointer none),1,8):=qg
def i7{w p f}(h:DB w p f):p.oneCell'=true:=by
 obtain⟨b,o,rfl,_⟩:=h;rfl
def EI.nd{w b base x i v}(h:EI w b x i v)(j:N5 w base x):∃a c,CP w b x.1 a c:=by
 obtain⟨⟨a,c,e⟩,O⟩:=j;obtain⟨⟨f,g,d,_⟩,_⟩:=h.G;rw[e]at d O;exact⟨a,c,f,g,d,E9.owns O⟩
def og(h:P:=by
 have HR:=Aa hR;clear hR hN8 ht8;go_wp2_with fail;go_roundw
 case rel=>
  refine⟨k+1,_,by go_num,by omega,HR.o.1.same (λi y hy=>?_),F3.o.c HR.o.2⟩;by_cases h1:i<k
  .simp[h1,show i<k+1 by omega,show i≠k by omega]
  .by_cases h2:i=k
   .subst h2;simp
   .simp[h1,h2,show¬i<k+1 by omega]
 case measure=>(simp;omega)
 ):=h
def oh(h:P:=by
 have HM:=Aa hm;rw[hm]at HP;clear hm;go_wp2_with fail;refine HP.o.rtn λw3 O=>?_;obtain⟨N3,F3⟩:=Ah (NR.o.C O) (FR.o.c (Dr.m O (by omega)));clear O HP r0;go_wp2_with fail;go_roundw
 case rel=>
  refine⟨k+1,V',by go_num,by omega,N3.o.same (λi y hy=>?_),F3.o⟩;by_cases h1:i<k
  .simp[h1,show i<k+1 by omega]
  .by_cases h2:i=k
   .subst h2;rw[HX.o]at hy;cases hy;simp[zhf HM.o]
   .simp[h1,show¬i<k+1 by omega]
 case measure=>(simp;omega)
 ):=h
def zky(base E mb:Nat)(J:Option Addr)(N:Nat)(L:List FH)(r:List Nat)(V:List Value)(Q:List (Value × F))(B:Value)(f:F)(I w:World)(T:Bw I w)(au:I.heap.size<=base)(hF:DB I B f)(M:NF w base E mb J N L r V (λ_=>Q))(hB:base<=w.heap.size)(hL:L.length<=1000)(hQ:Q.length<=1000)(Z:∀x∈L,x.1.x.length<=1048576) :
  Ca 91 #[.pointer (some ⟨E,0,none⟩),B] w λe w'=>e=.returned (.tuple #[])/\(∃V',NF w' base E mb J N L r V' (λ_=>Q++[(B,f)]))/\Dr base w w':=by
 obtain⟨a,l,ax⟩:∃a l,B=.pointer (some ⟨a,l,none⟩):=by
  obtain⟨a,l,h,_⟩:=hF;exact⟨a,l,h⟩
 subst ax;obtain⟨HA,HF,U,H6,aq⟩:=DE T hF M Z (i7 hF);obtain⟨⟨g0,g1⟩,_,aA⟩:=M.box.G;clear T hF M Z;go_enter func91,ntmps91;go_wp2_with fail;clear g0 g1
 go_loopw [11] (λiv wr=>∃(k:Nat)(V':List Value),iv=.int .i64 (k:Int)/\k<=L.length/\NF wr base E mb J N L r V' (λi=>if i<k then Q++[(.pointer (some ⟨a,l,none⟩),f)] else Q)/\Dr base w wr) (mz L.length)
 case atStart=>exact⟨0,V,rfl,yk _,U.o.same (λi x _=>qe),Dr.refl _ _⟩
 case round=>
  obtain⟨k,V',rfl,aB,aj,A⟩:=hrel;obtain⟨NR,FR⟩:=Ah aj A;have aD:=A.rest.size;have AR:=Aa (HA.o.c (A.rest.j au));clear aj A U;by_cases K:k<L.length
  .obtain⟨x,z⟩:=Ba K;obtain⟨nb,D⟩:∃b,r[k]?=some b:=⟨r[k]'(by rw[NR.o.aX];exact K),qe⟩
   obtain⟨v,hv⟩:∃v,V'[k]?=some v:=⟨V'[k]'(by rw[NR.o.aL];exact K),qe⟩
   obtain⟨rb,rfl,_,r0,_⟩:=BM NR.o.row (show(EO r)[k]?=some (.pointer (some ⟨nb,0,none⟩)) by simp[EO,D]);obtain⟨n,n2,⟨fa,fc,rfl⟩,q⟩:=NR.o.node k x nb v z D hv;simp only[WA,if_false]at hv n q;obtain⟨na,nc,ak⟩:=n.nd (NR.o.aK x (yd z));have HP:=Aa (OP nb x.1 na nc (.pointer (some ⟨a,l,none⟩)) f wr ak (HF.o.d AR.o) (H6.o x (yd z)));have aa:(Cg x.1 Q).length<=1000:=yh (y8 _ _) hQ;have z0:(0:Int)<=(k:Int):=qd;have z1:(k:Int)<(L.length:Int):=qd;obtain⟨HX,W,am⟩:=AA z D hv;clear z D hv n q ak;cases hm:Ae x.1 f
   .exact oh
   have HM:=Aa hm;rw[hm]at HP;clear hm;go_wp2_with fail;refine HP.o.rtn λw3 O=>?_;obtain⟨N3,F3⟩:=Ah (NR.o.C O) (FR.o.c (Dr.m O qd));have aC:=O.size;clear O HP r0;obtain⟨n,_,_,q⟩:=N3.o.node k x nb _ HX.o W.o am.o;simp only[WA,if_false]at q;obtain⟨N1,Y⟩:=Ah n q;obtain⟨⟨_,_,_,y4⟩,_,aw⟩:=n.G;have t:=Aa (λo=>An.alloc AH o:∀o,Bw w3 (w3.alloc o));have az:∀o,(w3.alloc o).cell? ⟨nb,4,none⟩=some (.slice fa (Cg x.1 Q).length fc):=λo=>zab (t.o o) y4;obtain⟨ay,TY⟩:=Ah (λo=>(show EI (w3.alloc o) nb x k (.slice fa (Cg x.1 Q).length fc) from((t.o o).block nb aw).c N1.o)) (λo g hg=>AO (AF Y.o (t.o o)) (k:=g) hg);have ao:base<=w3.heap.size:=qd;clear n q;go_upto_region 5 with(first|(at_builtin;refine CN qi (.tmp 22) (.tmp 24) 199 qi base 106 _ 1 8 underlying199 gd qi qd _ (Cg x.1 Q).length _ qi (AF Y.o (t.o _)) (some ⟨_,0,none⟩) 1 1 qi [.pointer (some ⟨a,l,none⟩)] qi (λe=>qo) (Cv _ _ _ _ qG) (by intro u hu;rw[yp]at hu;rw[hu];exact aq.o) qj qd (yh ao (t.o _).size) ?_;intro a7 c7 w7 H s R;have N7:=Aa (show EI w7 nb x k (.slice fa (Cg x.1 Q).length fc) from Ef (ay.o _) s.o (TY.o _) qh);obtain⟨_,z4,_⟩:=N7.o.G)|fail);refine XM N7.o ?_;intro w8 hN8 ht8;have hR:=NF.push (QQ:=λi=>if i<k then Q++[(.pointer (some ⟨a,l,none⟩),f)] else Q) (p:=.pointer (some ⟨a,l,none⟩)) (f:=f) (fa:=a7) (fc:=c7) N3.o HX.o W.o am.o HM.o ao (by simpa using H.o) s.o (by simpa using R.o) (by simpa using hN8) ht8;exact og
  have ar:k=L.length:=qd;subst ar;exact Zz
end
section
open Go.Maps
structure Cx where
 cp:Cp
 node:Nat
 ta:Option Addr
 tc:Nat
def II(c:Cx):List Value:=[.bool c.cp.neg,.int .i64 (c.cp.N:Int),.pointer (some ⟨c.node,0,none⟩),.slice c.ta c.cp.x.length c.tc]
def iN(c):∀u∈II c,u.oneCell'=true:=by
 intro u hu;simp[II]at hu;rcases hu with rfl|rfl|rfl|rfl<;>rfl
def DL:List Pt->List Vr->Nat->List Vr
 |[],vs,_=>vs
 |p::ps,vs,n=>if p.neg=true then DL ps vs n else DL ps (CL vs p.e n p.e.length) (n+1)
def Mi{w w' base b e t m v n xs c i}(h:w.ownsRow base e m v n xs)(d:w.heap[b]?=some (.cells c t i))(f:Turned w w' b)(a:t≠e):w'.ownsRow base e m v n xs:=
 Bv h λk g=>f.block k (λe=>by
  obtain⟨j,O⟩:=AO h g
  subst e
  exact Cf d O a)
def Eo.ay{a mb row u v w}(h:Eo a mb row u v)(k:Below u.heap.size v w):Eo a mb row u w:=⟨h.rest.c (k.j (yk _)),λj hj e b d=>(k.block j hj).c (h.block j hj e b d)⟩
def Eo.cQ{a mb row O u v w}(h:Eo a mb row u v)(k:Eo a mb O v w)(l:∀g,O=some g->row=some g∨u.heap.size<=g):Eo a mb row u w:=⟨h.rest.c k.rest,λj hj i b d=>(k.block j (yg hj h.rest.size) i b (λe=>by rcases l j e with f|f;exact d f;omega)).c (h.block j hj i b d)⟩
def NS.bF{g w w' base d mb i j L f D b c t n}(h:NS g w base d mb i j L f D)(l:w.heap[b]?=some (.cells c t n))(m:Turned w w' b)(a:¬Pe t):NS g w' base d mb i j L f D:=
 h.aj λk o O=>m.block k (λe=>by
  subst e
  exact a (O _ _ _ l))
def Do.ed{w b a v1}(h:Do w b a v1)(x):Do (w.setCell ⟨b,0,none⟩ x) b x v1:=by
 have:=Co (i:=0) h x;simpa[Do] using this
def lT{P:World->Prop}{w b a v1 y}(O:Do w b a v1)(h:∀wt,Do wt b y v1->Turned w wt b->P wt):P (w.setCell ⟨b,0,none⟩ y):=h _ (O.ed y) (Turned.setCells [y] 0 w b)
structure PN(w:World) (B pb:Nat) (ca:Option Addr) (cc:Nat) (va:Option Addr) (vc:Nat) (X:List Cx) (U:List Vr) (A:List Al) (bs:List Nat):Prop where
 box:Do w pb (.slice ca X.length cc) (.slice va U.length vc)
 conds:w.ownsRow B 197 4 (.slice ca X.length cc) X.length (X.flatMap II)
 vars:w.ownsRow B 330 3 (.slice va U.length vc) U.length (U.flatMap Hw)
 x:∀c∈X,w.ownsRow B 277 4 (.slice c.ta c.cp.x.length c.tc) c.cp.x.length (c.cp.x.flatMap IJ)
 aH:∀c∈X,∃i:Nat,A[i]?=some c.cp.F/\bs[i]?=some c.node
def PN.aj{w w' B pb ca cc i f X U A b}(h:PN w B pb ca cc i f X U A b)(d:∀(k:Nat)(c:Array Value)(t:TypeId)(g:Nat × Nat),w.heap[k]?=some (.cells c t g)->(t=102∨t=197∨t=330∨t=277)->w'.heap[k]?=some (.cells c t g)):PN w' B pb ca cc i f X U A b:=by
 have O:∀{e:TypeId}{m:Nat}{v:Value}{n:Nat}{xs:List Value},w.ownsRow B e m v n xs->(e=102∨e=197∨e=330∨e=277)->w'.ownsRow B e m v n xs:=λj l=>Bv j λk o=>by
  obtain⟨c,a⟩:=AO j o;rw[d k _ _ _ a l,a]
 exact⟨d _ _ _ _ h.box (.inl rfl),O h.conds (.inr (.inl rfl)),O h.vars (.inr (.inr (.inl rfl))),λc a=>O (h.x c a) (.inr (.inr (.inr rfl))),h.aH⟩
def PN.C{w w' B pb ca cc b e X U A a}(h:PN w B pb ca cc b e X U A a)(f:Bw w w'):PN w' B pb ca cc b e X U A a:=
 h.aj λk _ _ _ d _=>(f.block k (Ak d)).c d
structure PD(w:World) (B:Nat) (ca:Option Addr) (cc:Nat) (va:Option Addr) (vc:Nat) (X:List Cx) (U:List Vr) (A:List Al) (bs:List Nat):Prop where
 conds:w.ownsRow B 197 4 (.slice ca X.length cc) X.length (X.flatMap II)
 vars:w.ownsRow B 330 3 (.slice va U.length vc) U.length (U.flatMap Hw)
 x:∀c∈X,w.ownsRow B 277 4 (.slice c.ta c.cp.x.length c.tc) c.cp.x.length (c.cp.x.flatMap IJ)
 aH:∀c∈X,∃i:Nat,A[i]?=some c.cp.F/\bs[i]?=some c.node
def PD.aj{w w' B ca cc g d X U A b}(h:PD w B ca cc g d X U A b)(l:∀(k:Nat)(c:Array Value)(t:TypeId)(f:Nat × Nat),w.heap[k]?=some (.cells c t f)->(t=197∨t=330∨t=277)->w'.heap[k]?=some (.cells c t f)):PD w' B ca cc g d X U A b:=by
 have O:∀{e:TypeId}{m:Nat}{v:Value}{n:Nat}{xs:List Value},w.ownsRow B e m v n xs->(e=197∨e=330∨e=277)->w'.ownsRow B e m v n xs:=λi j=>Bv i λk o=>by
  obtain⟨c,a⟩:=AO i o;rw[l k _ _ _ a j,a]
 exact⟨O h.conds (.inl rfl),O h.vars (.inr (.inl rfl)),λc a=>O (h.x c a) (.inr (.inr rfl)),h.aH⟩
def PD.C{w w' B ca cc b e X U A a}(h:PD w B ca cc b e X U A a)(f:Bw w w'):PD w' B ca cc b e X U A a:=
 h.aj λk _ _ _ d _=>(f.block k (Ak d)).c d
def PN.pd{w B pb ca cc b c X U A a}(h:PN w B pb ca cc b c X U A a):PD w B ca cc b c X U A a:=⟨h.conds,h.vars,h.x,h.aH⟩
structure PS(kl:Al->Lit) (w:World) (R0:Option Nat) (bs0:List Nat) (A0:List Al) (base gb mb pb:Nat) (la:Option Addr) (lc:Nat) (L:List FH) (bs:List Nat) (D:DataW Unit) (ca:Option Addr) (cc:Nat) (va:Option Addr) (vc:Nat) (X:List Cx) (U:List Vr) (wr:World):Prop where
 ns:NS kl wr base gb mb la lc L bs D
 pn:PN wr w.heap.size pb ca cc va vc X U (L.map Prod.fst) bs
 fr:Eo gb mb R0 w wr
 cE:∀g,(Value.slice la L.length lc).ownBlock=some g->R0=some g∨w.heap.size<=g
 ext:∀(i n:Nat),bs0[i]?=some n->bs[i]?=some n
 cR:∀(i:Nat)(y:Al),A0[i]?=some y->(L.map Prod.fst)[i]?=some y
 bX:∀x∈L,x.1.x.length<=6
def PS.C{f w wr w' g a e base c mb pb i l L d D ca cc m k X U}(h:PS f w g a e base c mb pb i l L d D ca cc m k X U wr)(b:Bw wr w'):PS f w g a e base c mb pb i l L d D ca cc m k X U w':=
 ⟨h.ns.C b,h.pn.C b,h.fr.ay (b.j h.fr.rest.size),h.cE,h.ext,h.cR,h.bX⟩
def jN{A x y}{i:Nat}(h:A[i]?=some y):(Fe A x)[i]?=some y:=by
 unfold Fe;split
 .exact h
 rw[yr (ye.1 h).1];exact h
def PS.of{C w wr w' J j H base o mb pb u d E f L p B b D K ca cc A v X U x}(h:PS C w J j H base o mb pb u E L B D ca cc A v X U wr)(W:NS C w' base o mb d f p b K)(O:x.x.length<=6)(q:p.map Prod.fst=Fe (L.map Prod.fst) x)(I:Eo o mb (Value.slice u L.length E).ownBlock wr w')(G:∀(i n:Nat),B[i]?=some n->b[i]?=some n)(M:∀g,(Value.slice d p.length f).ownBlock=some g->(Value.slice u L.length E).ownBlock=some g∨wr.heap.size<=g):PS C w J j H base o mb pb d f p b K ca cc A v X U w':=by
 have m:PN w' w.heap.size pb ca cc A v X U (L.map Prod.fst) B:=h.pn.aj λk c t fr R ht=>I.box R h.ns qt qt;refine⟨W,⟨m.box,m.conds,m.vars,m.x,λc Z=>?_⟩,h.fr.cQ I h.cE,λg Y=>?_,λi n s=>G i n (h.ext i n s),λi y s=>by rw[q];exact jN (h.cR i y s),λy N=>?_⟩
 .obtain⟨i,l,T⟩:=m.aH c Z;exact⟨i,by rw[q];exact jN l,G i _ T⟩
 .rcases M g Y with l|l
  .exact h.cE g l
  exact .inr (yh h.fr.rest.size l)
 have a:y.1∈Fe (L.map Prod.fst) x:=by rw[<-q];exact yz.2 ⟨y,N,rfl⟩
 unfold Fe at a;split at a
 .obtain⟨z,r,e⟩:=yz.1 a;rw[<-e];exact h.bX z r
 rcases yn.1 a with a|a
 .obtain⟨z,r,e⟩:=yz.1 a;rw[<-e];exact h.bX z r
 rw[yp.1 a];exact O
def PS.push{B w wr m n E g y base v mb pb z G L r D ca s cc u l j X U c o}(h:PS B w E g y base v mb pb z G L r D ca cc l j X U wr)(N:wr.ownsRow w.heap.size 277 4 (.slice c.ta c.cp.x.length c.tc) c.cp.x.length (c.cp.x.flatMap IJ))(H:∃i:Nat,(L.map Prod.fst)[i]?=some c.cp.F/\r[i]?=some c.node)(p:w.heap.size<=pb)(t:m.ownsRow w.heap.size 197 4 (.slice s (X.length+1) u) (X.length+1) (X.flatMap II++II c))(b:(wr.alloc o).grownBy m (Value.slice ca X.length cc).ownBlock)(M:Do n pb (.slice s (X.length+1) u) (.slice l U.length j))(a:Turned m n pb) :
  PS B w E g y base v mb pb z G L r D s u l j (X++[c]) U n:=by
 have A:Bw wr (wr.alloc o):=Aj;have R:=h.fr.rest.size;have e:=h.C A;have K:=AF N A;have f:=λk q=>AO e.pn.conds (k:=k) q;have O:Do m pb (.slice ca X.length cc) (.slice l U.length j):=Ef e.pn.box b f qh;have I:=e.ns.grown b f qY;have v7:=Hv e.pn.vars b f qh;have J:=Hv K b f qh;refine⟨I.bF O a qY,⟨by simpa using M,?_,Mi v7 O a qh,λd hd=>?_,λd hd=>?_⟩,?_,h.cE,h.ext,h.cR,h.bX⟩
 .have:=Mi t O a qh;simpa using this
 .rcases yn.1 hd with hd|hd
  .exact Mi (Hv (e.pn.x d hd) b f qh) O a qh
  simp at hd;subst hd;exact Mi J O a qh
 .rcases yn.1 hd with hd|hd
  .exact h.pn.aH d hd
  simp at hd;subst hd;exact H
 refine e.fr.ay ((An.grown b qf (λk q=>(e.pn.conds.lt k q).1)).c (a.d p))
def PS.fill{o w wr w' p f n base l mb pb q s L m D ca cc t r X U b c u}(h:PS o w p f n base l mb pb q s L m D ca cc t r X U wr)(i:wr.heap[b]?=some (.cells c 197 u))(a:Turned wr w' b)(j:∀g,(Value.slice ca X.length cc).ownBlock=some g->g≠b)(O:w.heap.size<=b):PS o w p f n base l mb pb q s L m D ca cc t r X U w':=
 ⟨h.ns.bF i a qY,⟨(a.block pb (λe=>by subst e;exact Cf h.pn.box i qh)).c h.pn.box,Bv h.pn.conds (λk v=>a.block k (j k v)),Mi h.pn.vars i a qh,λd hd=>Mi (h.pn.x d hd) i a qh,h.pn.aH⟩,h.fr.ay (a.d O),h.cE,h.ext,h.cR,h.bX⟩
def OK{w w'}{b d:Nat}{c i t t' f O}(h:w.heap[b]?=some (.cells c t f))(hd:w.heap[d]?=some (.cells i t' O))(g:Turned w w' d)(a:t≠t'):w'.heap[b]?=some (.cells c t f):=
 (g.block b (λe=>by subst e;exact Cf h hd a)).c h
def PS.dD{C w wr w' E f s base r mb pb u G L B D ca cc z i y o X U b}(h:PS C w E f s base r mb pb u G L B D ca cc z y X U wr)(K:w.heap.size<=pb)(N:Do w' pb (.slice ca X.length cc) (.slice i b.length o))(M:w'.ownsRow w.heap.size 330 3 (.slice i b.length o) b.length (b.flatMap Hw))(hF:Fp pb (Value.slice z U.length y).ownBlock wr w'):PS C w E f s base r mb pb u G L B D ca cc i o X b w':=by
 have p:=h.fr.rest.size;have far:∀(k:Nat)(c:Array Value)(t:TypeId)(g:Nat × Nat),wr.heap[k]?=some (.cells c t g)->t≠102->t≠330->w'.heap[k]?=some (.cells c t g):=λk c t g a l j=>by
  refine(hF.block k (Ak a) (λe=>?_) (λe=>?_)).c a
  .subst e;exact Cf a h.pn.box l
  obtain⟨J,q⟩:=AO h.pn.vars e;exact Cf a q j
 have O:∀{e:TypeId}{m:Nat}{v:Value}{n:Nat}{xs:List Value},wr.ownsRow w.heap.size e m v n xs->e≠102->e≠330->w'.ownsRow w.heap.size e m v n xs:=λI l j=>Bv I λk a=>by
  obtain⟨c,H⟩:=AO I a;rw[far k _ _ _ H l j,H]
 refine⟨h.ns.aj λk a A=>hF.block k a (λe=>?_) (λe=>?_),⟨N,O h.pn.conds qh qh,M,λd hd=>O (h.pn.x d hd) qh qh,h.pn.aH⟩,?_,h.cE,h.ext,h.cR,h.bX⟩
 .subst e;exact absurd (A _ _ _ h.pn.box) qY
 .obtain⟨J,q⟩:=AO h.pn.vars e;exact absurd (A _ _ _ q) qY
 exact h.fr.ay ⟨hF.rest.os,hF.rest.tape,hF.rest.output,hF.rest.size,λk a=>hF.block k (yg a p) qd (λe=>by have:=(h.pn.vars.lt k e).1;omega)⟩
def ie:(prog.info? 197).map (λi=>(i.zero,i.size,i.bytes))=some (some (.agg #[.bool false,I6 0,.pointer none,.slice none 0 0]),4,48):=qg
def iZ(A x):(Fe A x)[DZ x A]?=some x:=by
 by_cases h:DZ x A<A.length
 .rw[jx h];exact jO h
 rw[jy h,kT h];simp
def QH(p a vs n):Bm (p::a) vs n=⟨p.neg,n,C0 p,Cw vs p.e p.e.length⟩::(if p.neg=true then Bm a vs n else Bm a (CL vs p.e n p.e.length) (n+1)):=rfl
def TE(p a vs n):DL (p::a) vs n=if p.neg=true then DL a vs n else DL a (CL vs p.e n p.e.length) (n+1):=rfl
def ST{P:World->Prop}{w b t x0 x1 f m d a c O}(j:w.heap[b]?=some (.cells #[x0,x1,f,m] t (0,0)))(h:∀wt,wt.heap[b]?=some (.cells #[d,a,c,O] t (0,0))->Turned w wt b->P wt):P ((((w.setCell ⟨b,0,none⟩ d).setCell ⟨b,1,none⟩ a).setCell ⟨b,2,none⟩ c).setCell ⟨b,3,none⟩ O):=by
 have l:=Co (i:=0) j d;have k:=Co (i:=1) l a;have g:=Co (i:=2) k c;have e:=Co (i:=3) g O;exact h _ (by simpa using e) (Turned.setCells [d,a,c,O] 0 w b)
end
section
open Go.Maps
attribute [local go_sem ↓] wp_at_zero wp_at_succ
def tA(kl:Al->Lit)(base gb mb:Nat)(la:Option Addr)(lc:Nat)(L:List FH)(bs:List Nat)(r:Ru)(w:World)(e:Ending)(w':World):Prop:=
 ∃la' lc' L' bs' D' ca cc va vc X,e=.returned (.agg #[.slice ca X.length cc,.slice va (DL r.v [] 0).length vc])/\X.map Cx.cp=Bm r.v [] 0/\NS kl w' base gb mb la' lc' L' bs' D'/\PD w' w.heap.size ca cc va vc X (DL r.v [] 0) (L'.map Prod.fst) bs'/\Eo gb mb (Value.slice la L.length lc).ownBlock w w'/\(∀g,(Value.slice la' L'.length lc').ownBlock=some g->(Value.slice la L.length lc).ownBlock=some g∨w.heap.size<=g)/\(∀(i n:Nat),bs[i]?=some n->bs'[i]?=some n)/\(∀(i:Nat)(y:Al),(L.map Prod.fst)[i]?=some y->(L'.map Prod.fst)[i]?=some y)/\L'.length<=L.length+r.v.length/\(∀x∈L',x.1.x.length<=6)
def oO(h:P:=by have h1:=congrArg List.length aE;have h2:=znE (L.map Prod.fst) (C0 p);simp at h1 h2;omega):=h
def ou(h:P:=by
 obtain⟨aU,aS,aT⟩:=AA (show Bm r.v [] 0=(X++[cx]).map Cx.cp++Bm (r.v.drop (k+1)) (CL U p.e n p.e.length) (n+1) by rw[HG.o,au.o,QH,if_neg (by rw[hneg];simp),HCX.o];simp) (show DL r.v [] 0=DL (r.v.drop (k+1)) (CL U p.e n p.e.length) (n+1) by rw[aF.o,au.o,TE,if_neg (by rw[hneg];simp)]) (zex pb n p aY a6 va vc U (.slice a9 (X++[cx]).length c9) w.heap.size wA br (a0.o _ O.o.fr) bI.o O.o.pn.box O.o.pn.vars (by omega) (by omega) O.o.fr.rest.size (by omega) (by omega));rw[hneg]at aT e0;clear hneg HG aF au;go_wp2_with fail;refine aT.o.j ?_;rintro e bY ⟨rfl,⟨b5,b4,aK,aI,_⟩,ax,bw⟩;obtain⟨bC,a8⟩:=Ah (O.o.dD aW aK aI ax) (show Do bY rb (.slice none 0 0) (.slice none 0 0) from(ax.block rb (Ak ai.o) (by omega) (λe=>by obtain⟨c',bT⟩:=AO O.o.pn.vars e;exact Cf bT ai.o (by decide))).c ai.o);have ci:=Ze U p.e n p.e.length;clear aK aI ax bw aT O ai aJ e0 e1 e2;go_wp2_with fail;have aj:=bC.o;rw[a3.o,bj.o,a7.o]at aj;have ay:=Aa aj;clear aj;go_roundw
 case rel=>exact⟨k+1,n+1,bc,bk,L3,aQ,D3,a9,c9,b5,b4,_,_,by go_num,by go_num,by omega,aU.o,aS.o,by omega,by simp;omega,by omega,by omega,ay.o,a8.o⟩
 case measure=>(simp[intOf];omega)
 ):=h
def mY(kl)(K:LM kl)(r a_p c_p a_e c_e cF cE){q}(base gb mb H I L J D wA w)(hA:Bw wA w)(bW:wA.heap.size<=base)(hbase:base<=w.heap.size)(ce:Ez q wA a_p r.v)(hN:NS kl w base gb mb H I L J D)(cX:r.v.length<=6)(cr:∀p∈r.v,p.e.length<=6)(cz:∀p∈r.v,Pt.le 1048576 p)(cg:∀p∈r.v,∀t∈p.e,DO t.val)(hL:L.length<=900)(h6:∀x∈L,x.1.x.length<=6) :
  Ca 90 #[.agg #[.string r.name,.int .i64 r.W,.slice a_p r.v.length c_p,.slice a_e r.w.length c_e,.slice cF r.E.length cE],.pointer (some ⟨gb,0,none⟩)] w (tA kl base gb mb H I L J r w):=by
 obtain⟨a0,HP,HN,cG,cL,cM,H6⟩:=Jj (show∀wr,Eo gb mb (Value.slice H L.length I).ownBlock w wr->Bw wA wr fromλwr hf=>hA.c (hf.d qd (yh bW hN.aW.1) (yh bW hN.aW.2) (λk hk=>yh bW (hN.row.lt k hk).1))) ce hN cr cz cg h6;clear ce hN cr cz cg hA h6;go_enter func90,ntmps90;go_upto_region 2 with fail;refine FX ?_;intro w0 bZ cq bV bX;have f2:w0.cell? ⟨w.heap.size,2,none⟩=some (.slice a_p r.v.length c_p):=by simp[World.cell?,cq]
 obtain⟨rb,cf⟩:∃b,b=w.heap.size+1:=⟨_,rfl⟩
 obtain⟨pb,aa⟩:∃b,b=rb+1:=⟨_,rfl⟩
 rw[<-cf]at bV⊢;rw[show w.heap.size+2=pb by omega]at bX;rw[<-aa];obtain⟨cw,co⟩:=Ah (show Do w0 rb (.slice none 0 0) (.slice none 0 0) from bV) (show PS kl w (Value.slice H L.length I).ownBlock J (L.map Prod.fst) base gb mb pb H I L J D none 0 none 0 [] [] w0 from⟨HN.o.C bZ,⟨bX,yN _ _ _ _,yN _ _ _ _,λc hc=>by simp at hc,λc hc=>by simp at hc⟩,Eo.m bZ,λg hg=>.inl hg,λ_ _ h=>h,λ_ _ h=>h,H6.o⟩);have aW:w.heap.size<=pb:=qd;have cV:rb<pb:=qd;have cd:w.heap.size<=rb:=qd;clear bZ cq bV bX cf aa;go_wp2_with fail;clear f2
 go_loopw [13,6] (λiv cv wr=>∃(k n:Nat)(ae:Option Addr)(ag:Nat)(L':List FH)(ad:List Nat)(D':DataW Unit)(ca:Option Addr)(cc:Nat)(va:Option Addr)(vc:Nat)(X:List Cx)(U:List Vr),iv=.int .i64 (k:Int)/\cv=.int .i64 (n:Int)/\k<=r.v.length/\Bm r.v [] 0=X.map Cx.cp++Bm (r.v.drop k) U n/\DL r.v [] 0=DL (r.v.drop k) U n/\L'.length<=L.length+k/\X.length<=k/\U.length<=6*k/\n<=k/\PS kl w (Value.slice H L.length I).ownBlock J (L.map Prod.fst) base gb mb pb ae ag L' ad D' ca cc va vc X U wr/\Do wr rb (.slice none 0 0) (.slice none 0 0)) (λiv _ _=>r.v.length-(intOf iv).toNat)
 case atStart=>exact⟨0,0,H,I,L,J,D,none,0,none,0,[],[],rfl,rfl,yk _,rfl,rfl,yu _,yu _,yu _,yu _,co.o,cw.o⟩
 case round=>
  obtain⟨L0,bt⟩:∃v,v=L:=⟨L,rfl⟩
  obtain⟨ab,bm⟩:∃v,v=J:=⟨J,rfl⟩
  obtain⟨R0,bR⟩:∃v,v=(Value.slice H L.length I).ownBlock:=⟨_,rfl⟩
  rw[<-bR]at hrel a0;rw[<-bm]at hrel;rw[<-bt]at hrel;have cR:L0.length<=900:=by rw[bt];exact hL
  have de:L0.length<=L.length:=by rw[bt];exact yu _
  obtain⟨a3,a7,bj⟩:=AA bR bt bm;obtain⟨k,n,H,I,L,J,D,ca,cc,va,vc,X,U,rfl,rfl,cW,hG,cD,cK,dg,da,cS,bE,cC⟩:=hrel;obtain⟨HG,aF,Z,bn⟩:=Bn hG cD bE cC;have cY:=bE.fr.rest.size;have cZ:pb<wr.heap.size:=Ak bE.pn.box;clear hG cD bE cC co cw;clear bR bt bm;by_cases hk:k<r.v.length
  .obtain⟨p,hp⟩:=Ba hk;obtain⟨df,mo,aY,a6,rfl,_,y0,y1,y2,b9,cn⟩:=HP.o.ds hp;have AR:=a0.o _ Z.o.fr;have x0:=zab AR y0;have x1:=zab AR y1;have x2:=zab AR y2;have bI:=Aa b9;have bK:=yd hp;have au:=Aa (CF hp);have cT:=cG.o p bK;obtain⟨a5,b8⟩:=Ah (cL.o p bK) (cM.o p bK);have v0:(0:Int)<=(k:Int):=qd;have v1:(k:Int)<(r.v.length:Int):=qd;obtain⟨bJ,bp⟩:=Ah (λw'(h:PS kl w R0 ab (L0.map Prod.fst) base gb mb pb H I L J D ca cc va vc X U w')=>sx kl K p aY a6 base gb mb H I L J D w' h.ns (bI.o.d (a0.o _ h.fr)) (yh a5.o.1 qh) ⟨yh a5.o.2.1 qh,λt ht=>⟨yh (a5.o.2.2 t ht).1 qh,yh (a5.o.2.2 t ht).2 qh⟩⟩ a5.o.2.1 cn b8.o qd (yh hbase h.fr.rest.size)) (λw' H I L J D(h:PS kl w R0 ab (L0.map Prod.fst) base gb mb pb H I L J D ca cc va vc X U w')=>zko pb p aY a6 va vc U w' h.pn.box.G.1.2 (IZ.owns h.pn.vars) (bI.o.d (a0.o _ h.fr)) cn qd qd);clear y0 y1 y2 b9 hp AR bK a5 b8;go_upto_region 6 with fail;refine Be ?_;intro s bM bL;obtain⟨tb,ac⟩:∃b,b=wr.heap.size:=⟨_,rfl⟩
   rw[<-ac]at bL⊢;obtain⟨d0,d1,d2⟩:=Ao bL;obtain⟨aM,bG,b7⟩:=AA ((Z.o.C bM).C An.drew) (show s.drew.heap[tb]?=some (.cells #[.bool p.neg,.string p.z,.slice aY p.e.length a6] 152 (0,0)) from bL) (show Do s.drew rb (.slice none 0 0) (.slice none 0 0) from(show Do s rb (.slice none 0 0) (.slice none 0 0) from bn.o.C bM));have c8:=bM.size;have cP:pb<tb:=qd;have bD:=Aa (λg(hg:(Value.slice ca X.length cc).ownBlock=some g)=>(aM.o.pn.conds.lt g hg).2);replace bD:=Aa (show∀g,(Value.slice ca X.length cc).ownBlock=some g->g<s.heap.size from bD.o);clear bM bL ac x0 x1 x2 Z bn;go_wp2_with fail;refine wp_region_noPanic ?_;refine wp_region_held_drew (S:=(λw'=>w'.cell? ⟨tb,0,none⟩=some (.bool p.neg)/\w'.cell? ⟨tb,1,none⟩=some (.string p.z)/\w'.cell? ⟨tb,2,none⟩=some (.slice aY p.e.length a6))) qg ?_ (λhHeld=>?_)
   ·(try dsimp only);exact⟨d0,d1,d2⟩
   refine sr 0 5 ?_;refine sr 6 7 ?_;refine r2 5 9 (λK f=>?_) λK f=>?_
   .go_simp;(go_at_call 149;refine(bJ.o _ aM.o).j ?_;rintro e' u ⟨bc,bk,L3,aQ,D3,nk,rfl,bh,aE,bz,R,bd,bu⟩);(try go_wp2_with fail);refine f.o _ _ (by(try dsimp only);exact Ao (R.box bG.o aM.o.ns qh qh)) λhHeld=>?_;clear f K;(try simp only[pA,pZ,pS,pN]);obtain⟨aD,T,aP,bS⟩:=Bn (aM.o.of bh (Tp p) aE R bd bu) (R.box bG.o aM.o.ns qh qh) (show Do u rb (.slice none 0 0) (.slice none 0 0) from R.box b7.o aM.o.ns qh qh) (show∃i:Nat,(L3.map Prod.fst)[i]?=some (C0 p)/\aQ[i]?=some nk from⟨_,by rw[aE];exact iZ _ _,bz⟩);have cu:L3.length<=L.length+1:=by
     exact oO
    have cN:s.heap.size<=u.heap.size:=R.rest.size;clear bh aE bz R bd bu;obtain⟨x0,x1,x2⟩:=Ao T.o;refine r2 7 9 (λK f=>?_) λK f=>?_
    focus
     go_simp;(go_at_call 150;refine(bp.o _ _ _ _ _ _ aD.o).j ?_;rintro ch w7 ⟨⟨ta,tc,rfl,aG⟩,af⟩);(try go_wp2_with fail);refine f.o _ _ rC λhHeld=>?_;clear f K;(try simp only[pA,pZ,pS,pN]);obtain⟨bl,Y,bq,bB⟩:=Bn (aD.o.C af) ((af.block _ (Ak T.o)).c T.o) (aP.o.C af) (CA aG (show w.heap.size<=u.heap.size by omega));have bQ:=af.size;clear aG af x0 x1 x2 aD T aP;refine sr 8 9 ?_;have aR:=Aa (λo'=>An.alloc AH o':∀o',Bw w7 (w7.alloc o'));obtain⟨m0,m1,m2⟩:=Ao Y.o;refine wpAnyH_ready (rs:=[9]) qg qe ?_;refine Yj (ym.c rfl) (λK f=>?_) Yx;go_simp;refine f.o _ _ qX λhHeld=>?_;clear f K;(try simp only[pA,pZ,pS,pN]);refine wpAnyH_ready (rs:=[10]) qg qe ?_;refine Yj (ym.c rfl) (λK f=>?_) Yx;go_simp;refine f.o _ _ qX λhHeld=>?_;clear f K;(try simp only[pA,pZ,pS,pN]);refine wpAnyH_done qg ?_ _;refine Ya ?_;go_upto_region 7 with fail;refine Be ?_;intro B aX aL;obtain⟨c0,c1,c2,c3⟩:=Ay aL;obtain⟨M,aC,aZ,a4⟩:=Bn (bl.o.C aX) ((aX.block _ (Ak Y.o)).c Y.o) (bq.o.C aX) (AF bB.o aX);have cB:=aX.size;clear aX aL m0 m1 m2 aR
    rotate_left
    focus
     have aB:=Aa (λo'=>An.alloc AH o':∀o',Bw u (u.alloc o'));go_simp;refine f.o _ _ (by(try dsimp only);exact⟨zab (aB.o _) x0,zab (aB.o _) x1,zab (aB.o _) x2⟩) λhHeld=>?_;clear f K;(try simp only[pA,pZ,pS,pN]);refine wpAnyH_ready (rs:=[7]) qg qe ?_;refine Yj (ym.c rfl) (λK f=>?_) Yx;go_simp;(go_at_call 150;refine(bp.o _ _ _ _ _ _ (aD.o.C (aB.o _))).j ?_;rintro ch w7 ⟨⟨ta,tc,rfl,aG⟩,af⟩);(try go_wp2_with fail);refine f.o _ _ (by(try dsimp only);exact⟨zab af (zab (aB.o _) x0),zab af (zab (aB.o _) x1),zab af (zab (aB.o _) x2)⟩) λhHeld=>?_;clear f K;(try simp only[pA,pZ,pS,pN]);have aV:=(aB.o _).c (af.j (aB.o _).size);obtain⟨bl,Y,bq⟩:=AA (aD.o.C aV) ((aV.block _ (Ak T.o)).c T.o) (aP.o.C aV);have bQ:=af.size;simp at bQ;obtain⟨bB,ah⟩:=Ah (CA aG (show w.heap.size<=_ by simp;omega)) (show w7.heap[u.heap.size]?=some (.cells #[.bool false,.int .i64 0,.pointer none,.slice none 0 0] 197 (0,0)) from(af.block u.heap.size qe).c (heap_alloc_new _ _));clear aG af aV x0 x1 x2 aD T aP aB;refine sr 8 9 ?_;obtain⟨m0,m1,m2⟩:=Ao Y.o;obtain⟨o0,o1,o2,o3⟩:=Ay ah.o;have s0:w7.frozen? ⟨u.heap.size,0,none⟩=false:=qz;have s1:w7.frozen? ⟨u.heap.size,1,none⟩=false:=qz;have s2:w7.frozen? ⟨u.heap.size,2,none⟩=false:=qz;have s3:w7.frozen? ⟨u.heap.size,3,none⟩=false:=qz;have bo:=Aa (λwt(ht:Turned w7 wt u.heap.size)=>Ao (OK Y.o ah.o ht qh));refine wpAnyH_ready (rs:=[10]) qg qe ?_;refine Yj (ym.c rfl) (λK f=>?_) Yx;go_simp;refine f.o _ _ pi λhHeld=>?_;clear f K;(try simp only[pA,pZ,pS,pN]);refine wpAnyH_done qg ?_ _;refine Ya ?_;go_upto_region 7 with fail;refine ST ah.o ?_;intro B aL N;obtain⟨c0,c1,c2,c3⟩:=Ay aL;obtain⟨M,aC,aZ,a4⟩:=Bn (bl.o.fill ah.o N (λg hg=>by have:=bD.o g hg;omega) qd) (OK Y.o ah.o N qh) (show Do B rb (.slice none 0 0) (.slice none 0 0) from OK bq.o ah.o N qh) (Mi bB.o ah.o N qh);have cB:w7.heap.size<=B.heap.size:=WK N.size.y;clear N aL m0 m1 m2 o0 o1 o2 o3 s0 s1 s2 s3 bo ah
    rotate_left
    all_goals
     have cj:tb<B.heap.size:=Ak aC.o;clear d0 d1 d2 bJ bp hHeld;obtain⟨⟨q0,q1⟩,_,cO⟩:=M.o.pn.box.G;have A:=Aa (λo=>An.alloc AH o:∀o,Bw B (B.alloc o));have bO:∀o,(B.alloc o).cell? ⟨pb,0,none⟩=some (.slice ca X.length cc):=λo=>zab (A.o o) q0;obtain⟨TY,bg,bf,bi⟩:=Bn (λo g hg=>AO (AF M.o.pn.conds (A.o o)) (k:=g) hg) (λo=>M.o.pn.box.C (A.o o)) (λo=>aZ.o.C (A.o o)) (λo=>((A.o o).block _ (Ak aC.o)).c aC.o);have bA:w.heap.size<=B.heap.size:=qd;go_upto_region 8 with(first|(at_builtin;refine CN qi (.tmp 27) (.tmp 29) 99 qi w.heap.size 197 _ 4 48 underlying99 ie qi qd _ X.length _ qi (AF M.o.pn.conds (A.o _)) (some ⟨_,0,none⟩) 1 1 qi (II ⟨⟨p.neg,n,C0 p,Cw U p.e p.e.length⟩,nk,ta,tc⟩) qi (λe=>qo) (Cv _ _ _ _ qG) (iN _) qj qd (yh bA (A.o _).size) ?_;intro a9 c9 w9 bv aA bU;have P9:=Aa (show Do w9 pb (.slice ca X.length cc) (.slice va U.length vc) from Ef (bg.o _) aA.o (TY.o _) qh);have R9:=Aa (show Do w9 rb (.slice none 0 0) (.slice none 0 0) from Ef (bf.o _) aA.o (TY.o _) qh);have B9:=Aa (Ef (bi.o _) aA.o (TY.o _) qh);obtain⟨⟨l0,l1⟩,z,_⟩:=P9.o.G;have bP:=z 0;clear z)|fail);refine lT P9.o ?_;intro br aH ak;obtain⟨cx,aN⟩:∃c:Cx,c=⟨⟨p.neg,n,C0 p,Cw U p.e p.e.length⟩,nk,ta,tc⟩:=⟨_,rfl⟩
     have O:=Aa (M.o.push (c:=⟨⟨p.neg,n,C0 p,Cw U p.e p.e.length⟩,nk,ta,tc⟩) a4.o bS.o aW bv.o aA.o aH ak);rw[<-aN]at O;have HCX:=Aa aN;clear aN;obtain⟨ai,aJ⟩:=Ah (show Do br rb (.slice none 0 0) (.slice none 0 0) from(ak.block rb qd).c R9.o) ((ak.block tb qd).c B9.o);obtain⟨e0,e1,e2⟩:=Ao aJ.o;clear aH ak c0 c1 c2 c3 q0 q1 bO l0 l1 bP A TY bg bf bi P9 R9 B9 M aC aZ a4 bv aA bU;rcases(show p.neg=false∨p.neg=true by cases p.neg<;>simp) with hneg|hneg
     .exact ou
     obtain⟨aU,aS⟩:=Ah (show Bm r.v [] 0=(X++[cx]).map Cx.cp++Bm (r.v.drop (k+1)) U n by rw[HG.o,au.o,QH,if_pos hneg,HCX.o];simp) (show DL r.v [] 0=DL (r.v.drop (k+1)) U n by rw[aF.o,au.o,TE,if_pos hneg]);rw[hneg]at e0;clear hneg HG aF au;go_wp2_with fail;have aj:=O.o;rw[a3.o,bj.o,a7.o]at aj;have ay:=Aa aj;clear aj;go_roundw
     case rel=>exact⟨k+1,n,bc,bk,L3,aQ,D3,a9,c9,va,vc,_,U,qm,rfl,qd,aU.o,aS.o,qd,qf,qd,qd,ay.o,ai.o⟩
     case measure=>(simp[intOf];omega)
   obtain⟨bF,bN⟩:=Ah (λo'=>An.alloc AH o':∀o',Below s.drew.heap.size s.drew (s.drew.alloc o')) (λo'=>An.drew.alloc qe o':∀o',Bw s (s.drew.alloc o'));go_simp;refine f.o _ _ (by(try dsimp only);exact⟨zab (bN.o _) d0,zab (bN.o _) d1,zab (bN.o _) d2⟩) λhHeld=>?_;clear f K;(try simp only[pA,pZ,pS,pN]);obtain⟨aO,b0,b6⟩:=AA (λo'=>aM.o.C (bF.o o')) (λo'=>((bF.o o').block _ (Ak bG.o)).c bG.o) (λo'=>b7.o.C (bF.o o'));refine wpAnyH_ready (rs:=[5]) qg qe ?_;refine Yj (ym.c rfl) (λK f=>?_) Yx;go_simp;(go_at_call 149;refine(bJ.o _ (aO.o _)).j ?_;rintro e' u ⟨bc,bk,L3,aQ,D3,nk,rfl,bh,aE,bz,R,bd,bu⟩);(try go_wp2_with fail);refine f.o _ _ (by(try dsimp only);exact Ao (R.box (b0.o _) (aO.o _).ns qh qh)) λhHeld=>?_;clear f K;(try simp only[pA,pZ,pS,pN]);obtain⟨aD,T,aP,bH,bS⟩:=DE ((aO.o _).of bh (Tp p) aE R bd bu) (R.box (b0.o _) (aO.o _).ns qh qh) (show Do u rb (.slice none 0 0) (.slice none 0 0) from R.box (b6.o _) (aO.o _).ns qh qh) (show u.heap[s.heap.size]?=some (.cells #[.bool false,.int .i64 0,.pointer none,.slice none 0 0] 197 (0,0)) from R.box (heap_alloc_new s.drew _) (aO.o _).ns qh qh) (show∃i:Nat,(L3.map Prod.fst)[i]?=some (C0 p)/\aQ[i]?=some nk from⟨_,by rw[aE];exact iZ _ _,bz⟩);have cu:L3.length<=L.length+1:=by
    exact oO
   have cN:s.heap.size<u.heap.size:=Ak bH.o;clear bh aE bz R bd bu aO b0 b6 bF bN;obtain⟨x0,x1,x2⟩:=Ao T.o;refine wpAnyH_ready (rs:=[7]) qg qe ?_;refine Yj (ym.c rfl) (λK f=>?_) Yx;go_simp;(go_at_call 150;refine(bp.o _ _ _ _ _ _ aD.o).j ?_;rintro ch w7 ⟨⟨ta,tc,rfl,aG⟩,af⟩);(try go_wp2_with fail);refine f.o _ _ rC λhHeld=>?_;clear f K;(try simp only[pA,pZ,pS,pN]);obtain⟨bl,Y,bq,ah,bB⟩:=DE (aD.o.C af) ((af.block _ (Ak T.o)).c T.o) (aP.o.C af) ((af.block _ (Ak bH.o)).c bH.o) (CA aG (show w.heap.size<=u.heap.size by omega));have bQ:=af.size;clear aG af x0 x1 x2 aD T aP bH;refine sr 8 9 ?_;obtain⟨m0,m1,m2⟩:=Ao Y.o;obtain⟨o0,o1,o2,o3⟩:=Ay ah.o;have s0:w7.frozen? ⟨s.heap.size,0,none⟩=false:=qz;have s1:w7.frozen? ⟨s.heap.size,1,none⟩=false:=qz;have s2:w7.frozen? ⟨s.heap.size,2,none⟩=false:=qz;have s3:w7.frozen? ⟨s.heap.size,3,none⟩=false:=qz;have bo:=Aa (λwt(ht:Turned w7 wt s.heap.size)=>Ao (OK Y.o ah.o ht qh));refine wpAnyH_ready (rs:=[10]) qg qe ?_;refine Yj (ym.c rfl) (λK f=>?_) Yx;go_simp;refine f.o _ _ pi λhHeld=>?_;clear f K;(try simp only[pA,pZ,pS,pN]);refine wpAnyH_done qg ?_ _;refine Ya ?_;go_upto_region 7 with fail;refine ST ah.o ?_;intro B aL N;obtain⟨c0,c1,c2,c3⟩:=Ay aL;obtain⟨M,aC,aZ,a4⟩:=Bn (bl.o.fill ah.o N (λg hg=>by have:=bD.o g hg;omega) qd) (OK Y.o ah.o N qh) (show Do B rb (.slice none 0 0) (.slice none 0 0) from OK bq.o ah.o N qh) (Mi bB.o ah.o N qh);have cB:w7.heap.size<=B.heap.size:=WK N.size.y;clear N aL m0 m1 m2 o0 o1 o2 o3 s0 s1 s2 s3 bo ah;have cj:tb<B.heap.size:=Ak aC.o;clear d0 d1 d2 bJ bp hHeld;obtain⟨⟨q0,q1⟩,_,cO⟩:=M.o.pn.box.G;have A:=Aa (λo=>An.alloc AH o:∀o,Bw B (B.alloc o));have bO:∀o,(B.alloc o).cell? ⟨pb,0,none⟩=some (.slice ca X.length cc):=λo=>zab (A.o o) q0;obtain⟨TY,bg,bf,bi⟩:=Bn (λo g hg=>AO (AF M.o.pn.conds (A.o o)) (k:=g) hg) (λo=>M.o.pn.box.C (A.o o)) (λo=>aZ.o.C (A.o o)) (λo=>((A.o o).block _ (Ak aC.o)).c aC.o);have bA:w.heap.size<=B.heap.size:=qd;go_upto_region 8 with(first|(at_builtin;refine CN qi (.tmp 27) (.tmp 29) 99 qi w.heap.size 197 _ 4 48 underlying99 ie qi qd _ X.length _ qi (AF M.o.pn.conds (A.o _)) (some ⟨_,0,none⟩) 1 1 qi (II ⟨⟨p.neg,n,C0 p,Cw U p.e p.e.length⟩,nk,ta,tc⟩) qi (λe=>qo) (Cv _ _ _ _ qG) (iN _) qj qd (yh bA (A.o _).size) ?_;intro a9 c9 w9 bv aA bU;have P9:=Aa (show Do w9 pb (.slice ca X.length cc) (.slice va U.length vc) from Ef (bg.o _) aA.o (TY.o _) qh);have R9:=Aa (show Do w9 rb (.slice none 0 0) (.slice none 0 0) from Ef (bf.o _) aA.o (TY.o _) qh);have B9:=Aa (Ef (bi.o _) aA.o (TY.o _) qh);obtain⟨⟨l0,l1⟩,z,_⟩:=P9.o.G;have bP:=z 0;clear z)|fail);refine lT P9.o ?_;intro br aH ak;obtain⟨cx,aN⟩:∃c:Cx,c=⟨⟨p.neg,n,C0 p,Cw U p.e p.e.length⟩,nk,ta,tc⟩:=⟨_,rfl⟩
   have O:=Aa (M.o.push (c:=⟨⟨p.neg,n,C0 p,Cw U p.e p.e.length⟩,nk,ta,tc⟩) a4.o bS.o aW bv.o aA.o aH ak);rw[<-aN]at O;have HCX:=Aa aN;clear aN;obtain⟨ai,aJ⟩:=Ah (show Do br rb (.slice none 0 0) (.slice none 0 0) from(ak.block rb qd).c R9.o) ((ak.block tb qd).c B9.o);obtain⟨e0,e1,e2⟩:=Ao aJ.o;clear aH ak c0 c1 c2 c3 q0 q1 bO l0 l1 bP A TY bg bf bi P9 R9 B9 M aC aZ a4 bv aA bU;rcases(show p.neg=false∨p.neg=true by cases p.neg<;>simp) with hneg|hneg
   .exact ou
   obtain⟨aU,aS⟩:=Ah (show Bm r.v [] 0=(X++[cx]).map Cx.cp++Bm (r.v.drop (k+1)) U n by rw[HG.o,au.o,QH,if_pos hneg,HCX.o];simp) (show DL r.v [] 0=DL (r.v.drop (k+1)) U n by rw[aF.o,au.o,TE,if_pos hneg]);rw[hneg]at e0;clear hneg HG aF au;go_wp2_with fail;have aj:=O.o;rw[a3.o,bj.o,a7.o]at aj;have ay:=Aa aj;clear aj;go_roundw
   case rel=>exact⟨k+1,n,bc,bk,L3,aQ,D3,a9,c9,va,vc,_,U,qm,rfl,qd,aU.o,aS.o,qd,qf,qd,qd,ay.o,ai.o⟩
   case measure=>(simp[intOf];omega)
  have cI:k=r.v.length:=qd;subst cI;have hy:¬(r.v.length:Int)<(r.v.length:Int):=qd;obtain⟨⟨q0,q1⟩,_,_⟩:=Z.o.pn.box.G;obtain⟨⟨r0,r1⟩,rz,cU⟩:=bn.o.G;have dd:=rz 0;have dc:=rz 1;have cm:Bm r.v [] 0=X.map Cx.cp:=by rw[HG.o,List.drop_length];simp[Bm]
  have cy:DL r.v [] 0=U:=by rw[aF.o,List.drop_length];rfl
  obtain⟨cH,cA⟩:=Ah cm cy;have cQ:rb≠pb:=qd;clear cm cy rz;go_wp2_with fail;refine bodyPost_ret (v:=.agg #[.slice ca X.length cc,.slice va U.length vc]) (by simp[results,results90,go_sem,r0,r1]) rfl ?_;have ht:Turned wr ((wr.setCell ⟨rb,0,none⟩ (.slice ca X.length cc)).setCell ⟨rb,1,none⟩ (.slice va U.length vc)) rb:=Turned.setCells [_,_] 0 wr rb;refine⟨H,I,L,J,D,ca,cc,va,vc,X,by rw[cA.o],cH.o.y,Z.o.ns.bF bn.o ht qY,?_,?_,?_,?_,?_,?_,Z.o.bX⟩
  .rw[cA.o];exact Z.o.pn.pd.aj λk c t fr hk cJ=>(ht.block k (λe=>by subst e;exact Cf bn.o hk (by rcases cJ with rfl|rfl|rfl<;>decide))).c hk
  .rw[<-a3.o];exact Z.o.fr.ay (ht.d cd)
  .rw[<-a3.o];exact Z.o.cE
  .rw[<-bj.o];exact Z.o.ext
  .rw[<-a7.o];exact Z.o.cR
  rw[<-a7.o];exact cK
end
section
open Go.Maps
structure Px where
 ca:Option Addr
 cc:Nat
 va:Option Addr
 vc:Nat
 X:List Cx
 U:List Vr
def Ht(x:Px):List Value:=[.slice x.ca x.X.length x.cc,.slice x.va x.U.length x.vc]
def gQ(x):∀u∈Ht x,u.oneCell'=true:=by
 intro u hu;simp[Ht]at hu;rcases hu with rfl|rfl<;>rfl
def gK:(prog.info? 102).map (λi=>(i.zero,i.size,i.bytes))=some (some (.agg #[.slice none 0 0,.slice none 0 0]),2,48):=qg
structure Fo(w:World) (B:Nat) (a:Option Addr) (c:Nat) (P:List Px) (A:List Al) (bs:List Nat):Prop where
 row:w.ownsRow B 102 2 (.slice a P.length c) P.length (P.flatMap Ht)
 P:∀x∈P,PD w B x.ca x.cc x.va x.vc x.X x.U A bs
def Fo.aj{w w' B a c P A e}(h:Fo w B a c P A e)(f:∀(k:Nat)(c:Array Value)(t:TypeId)(b:Nat × Nat),w.heap[k]?=some (.cells c t b)->(t=102∨t=197∨t=330∨t=277)->w'.heap[k]?=some (.cells c t b)):Fo w' B a c P A e:=
 ⟨Bv h.row λk d=>by
  obtain⟨j,O⟩:=AO h.row d
  rw[f k _ _ _ O (.inl rfl),O],λx i=>(h.P x i).aj λk c t b d g=>f k c t b d (.inr g)⟩
def Fo.C{w w' B a c P A b}(h:Fo w B a c P A b)(e:Bw w w'):Fo w' B a c P A b:=
 h.aj λk _ _ _ d _=>(e.block k (Ak d)).c d
def Fo.ft{base w w' B a c P A b}(h:Fo w B a c P A b)(d:Dr base w w'):Fo w' B a c P A b:=
 h.aj λk c t f e ht=>d.kept k c t f e qt qt
def PD.ext{w B ca cc e d X U A O b a}(h:PD w B ca cc e d X U A b)(k:∀(i:Nat)(y:Al),A[i]?=some y->O[i]?=some y)(g:∀(i n:Nat),b[i]?=some n->a[i]?=some n):PD w B ca cc e d X U O a:=
 ⟨h.conds,h.vars,h.x,λc l=>by
  obtain⟨i,j,f⟩:=h.aH c l
  exact⟨i,k i _ j,g i _ f⟩⟩
def PD.lower{w B O ca cc d e X U A b}(h:PD w B ca cc d e X U A b)(a:O<=B):PD w O ca cc d e X U A b:=
 ⟨CA h.conds a,CA h.vars a,λc f=>CA (h.x c f) a,h.aH⟩
def Fo.push{J w O g base m mb B p v}{L l:List FH}{j b D a u c q P x o}(h:Fo w B a c P (L.map Prod.fst) j)(H:NS J w base m mb p v L j D)(G:Eo m mb (Value.slice p L.length v).ownBlock w O)(A:∀(i n:Nat),j[i]?=some n->b[i]?=some n)(K:∀(i:Nat)(y:Al),(L.map Prod.fst)[i]?=some y->(l.map Prod.fst)[i]?=some y)(E:PD O B x.ca x.cc x.va x.vc x.X x.U (l.map Prod.fst) b)(M:(O.alloc o).grownBy g (Value.slice a P.length c).ownBlock)(ho:g.ownsRow B 102 2 (.slice u (P.length+1) q) (P.length+1) (P.flatMap Ht++Ht x)):Fo g B u q (P++[x]) (l.map Prod.fst) b:=by
 have I:Fo O B a c P (L.map Prod.fst) j:=h.aj λk c t f e ht=>G.box e H qt qt;have s:Bw O (O.alloc o):=Aj;have r:=I.C s;have z:=λk e=>AO r.row (k:=k) e;have far:∀(k:Nat)(c:Array Value)(t:TypeId)(f:Nat × Nat),(O.alloc o).heap[k]?=some (.cells c t f)->(t=197∨t=330∨t=277)->g.heap[k]?=some (.cells c t f):=λk c t f e ht=>Ef e M z qS;refine⟨QV,λy d=>?_⟩;rcases yn.1 d with d|d
 .exact((r.P y d).ext K A).aj far
 rw[yp.1 d];exact(E.C s).aj far
def Jd(a:Option Addr)(fs:List F):Nat->List (Value × F)
 |0=>[]
 |k+1=>Jd a fs k++(match fs[k]?,a with|some f,some ad=>[(.pointer (some ⟨ad.block,ad.off+k*3,none⟩),f)]|_,_=>[])
def jg{b o:Nat}{fs:List F}{k:Nat}{f:F}(h:fs[k]?=some f):Jd (some ⟨b,o,none⟩) fs (k+1)=Jd (some ⟨b,o,none⟩) fs k++[(.pointer (some ⟨b,o+k*3,none⟩),f)]:=by simp[Jd,h]
def gy(a:Option Addr)(fs:List F):∀k,(Jd a fs k).length<=k
 |0=>yu _
 |k+1=>by
  have h:=gy a fs k
  simp only[Jd,yP]
  split<;>simp<;>omega
def iQ{w:World}{a:Option Addr}{fs:List F}(h:Bz w a fs):∀k,k<=fs.length->(Jd a fs k).map Prod.snd=fs.take k/\∀y∈Jd a fs k,DB w y.1 y.2
 |0,_=>⟨rfl,λy d=>by simp[Jd]at d⟩
 |k+1,hk=>by
  obtain⟨n,l⟩:=iQ h k qd
  obtain⟨f,e⟩:∃f,fs[k]?=some f:=⟨fs[k],by simp[show k<fs.length by omega]⟩
  obtain⟨b,o,rfl,j,i,m,c,g,hv⟩:=h k f e
  rw[jg e]
  refine⟨by rw[yF,n,yZ,e];rfl,λy d=>?_⟩
  rcases yn.1 d with d|d
  .exact l y d
  rw[yp.1 d]
  exact⟨b,o+k*3,rfl,j,i,m,c,g,hv⟩
def iR{x}:∀(Q:List (Value × F)),(Cg x Q).map Prod.snd=(Q.map Prod.snd).filter (Ae x)
 |[]=>rfl
 |y::r=>by
  unfold Cg
  have O:=iR (x:=x) r
  unfold Cg at O
  by_cases h:Ae x y.2=true
  .rw[yD qq,yq,yq,yD h,O]
  rw[yJ qq,yq,yJ h,O]
def DS.owns{w base a c ts}(h:w.ownsRow base 277 4 (.slice a ts.length c) ts.length (ts.flatMap IJ)):DS w a ts:=by
 intro i t d;have key:=λj u(hj:(IJ t)[j]?=some u)=>BM h (FK (cells:=IJ) (m:=4) (λ_=>rfl) ts i t j u d hj);obtain⟨k,rfl,_,O,_⟩:=key 0 _ rfl;obtain⟨n,e,_,h1,_⟩:=key 1 _ rfl;obtain⟨l,f,_,h2,_⟩:=key 2 _ rfl;obtain⟨g,b,_,h3,_⟩:=key 3 _ rfl;cases e;cases f;cases b;exact⟨k,0,rfl,qZ,qw,qu,Mt⟩
def BB(fs:List F)(c:Cx):Cn:=⟨c.cp.neg,c.cp.N,c.node,c.cp.x,c.cp.F,fs.filter (Ae c.cp.F)⟩
def iJ(fs c):Iy fs (BB fs c) c.cp:=⟨rfl,rfl,rfl,rfl,rfl⟩
def PD.eP{w B base C mb la lc L r V Q fs ca cc J E X U}(h:PD w B ca cc J E X U (L.map Prod.fst) r)(n:NF w base C mb la lc L r V (λ_=>Q))(M:Q.map Prod.snd=fs)(hF:∀y∈Q,DB w y.1 y.2):Pj w ca (X.map (BB fs)):=by
 intro i d t;rw[yA]at t;obtain⟨c,z,rfl⟩:=Yd.1 t;have key:=λj u(hj:(II c)[j]?=some u)=>BM h.conds (FK (cells:=II) (m:=4) (λ_=>rfl) X i c j u z hj);obtain⟨k,rfl,_,H,_⟩:=key 0 _ rfl;obtain⟨k1,I,_,N,_⟩:=key 1 _ rfl;obtain⟨k2,R,_,h2,_⟩:=key 2 _ rfl;obtain⟨k3,Y,_,Z,_⟩:=key 3 _ rfl;cases I;cases R;cases Y;have O:=yd z;obtain⟨m,q,hb⟩:=h.aH c O;rw[yA]at q;obtain⟨x,l,ai⟩:=Yd.1 q;have K:m<L.length:=(ye.1 l).1;obtain⟨v,hv⟩:∃v,V[m]?=some v:=⟨V[m]'(by rw[n.aL];exact K),qe⟩
 obtain⟨e,_,⟨fa,fc,rfl⟩,o⟩:=n.node m x c.node v l hb hv;obtain⟨D,nc,A⟩:=e.nd (n.aK x (yd l));rw[ai]at A e o;have a:(Cg c.cp.F Q).map Prod.snd=fs.filter (Ae c.cp.F):=by rw[iR,M]
 have b:(Cg c.cp.F Q).length=(fs.filter (Ae c.cp.F)).length:=by rw[<-a,yt]
 obtain⟨⟨_,_,_,W⟩,_⟩:=e.G;refine⟨k,0,c.ta,c.tc,rfl,by simpa[BB] using H,by simpa[BB] using N,by simpa[BB] using h2,by simpa[BB] using Z,⟨DS.owns (h.x c O),⟨D,nc,A⟩,fa,fc,?_,?_⟩⟩
 .show At w c.node 4 (.slice fa (fs.filter (Ae c.cp.F)).length fc);rw[<-b];exact W
 intro j f hj;have s:((Cg c.cp.F Q).map Prod.snd)[j]?=some f:=by rw[a];exact hj
 rw[yA]at s;obtain⟨y,p,rfl⟩:=Yd.1 s;obtain⟨g,rfl,_,T,_⟩:=BM o (show((Cg c.cp.F Q).map Prod.fst)[j]?=some y.1 by rw[yA,p];rfl);exact⟨g,0,y.1,rfl,by simpa using T,hF y (yf.1 (yd p)).1⟩
def QE:∀(a:List Pt)(vs:List Vr)(n:Nat),(∀p∈a,p.e.length<=6)->∀d∈Bm a vs n,d.x.length<=6/\d.F.x.length<=6
 |[],_,_,_,d,hd=>by simp[Bm]at hd
 |p::a,vs,n,h,d,hd=>by
  rw[QH]at hd
  have b:∀q∈a,q.e.length<=6:=λq c=>h q (by simp[c])
  rcases yG.1 hd with rfl|hd
  .exact⟨yh (X0 _ _ _) (h p qe),Tp p⟩
  split at hd
  .exact QE a _ _ b d hd
  exact QE a _ _ b d hd
structure Pu(w:World) (fs:List F) (ca:Option Addr) (va:Option Addr) (r:Ru) (cs:List Cn):Prop where
 conds:Pj w ca cs
 vars:IZ w va (DL r.v [] 0)
 len:cs.length=(Bm r.v [] 0).length
 P:∀(k:Nat)(c:Cn)(d:Cp),cs[k]?=some c->(Bm r.v [] 0)[k]?=some d->Iy fs c d
 small:∀c∈cs,sG c
def Pu.d{w w' fs ca b r cs}(h:Pu w fs ca b r cs)(a:Bw w w'):Pu w' fs ca b r cs:=⟨h.conds.d a,h.vars.d a,h.len,h.P,h.small⟩
def PD.eQ{w B base j mb o s L f V Q fs ca cc g q X r}(h:PD w B ca cc g q X (DL r.v [] 0) (L.map Prod.fst) f)(t:NF w base j mb o s L f V (λ_=>Q))(m:Q.map Prod.snd=fs)(hF:∀y∈Q,DB w y.1 y.2)(O:X.map Cx.cp=Bm r.v [] 0)(l:∀p∈r.v,p.e.length<=6)(u:fs.length<=40):Pu w fs ca g r (X.map (BB fs)):=by
 refine⟨h.eP t m hF,IZ.owns h.vars,by rw[<-O];simp,λk c d a hd=>?_,λc a=>?_⟩
 .rw[<-O,yA]at hd;rw[yA]at a;obtain⟨x,b,rfl⟩:=Yd.1 a;rw[b]at hd;cases hd;exact iJ fs x
 obtain⟨x,b,rfl⟩:=yz.1 a;obtain⟨n,i⟩:=QE r.v [] 0 l x.cp (by rw[<-O];exact yz.2 ⟨x,b,rfl⟩);exact⟨yh n qh,yh (y8 _ _) qd,yh i qh⟩
end
section
attribute [local go_sem ↓] wp_at_zero wp_at_succ
structure CI(w:World) (a:Addr) (f:F):Prop where
 N:DB w (.pointer (some a)) f
 pt:A5 w (some a)
 sl:∀sa n sc,w.cell? ⟨a.block,a.off+2,none⟩=some (.slice sa n sc)->∀vb vo,sa=some ⟨vb,vo,none⟩->f.s≠[]->∃c fr,w.heap[vb]?=some (.cells c 187 fr)
def CI.keep{w w' a f}(h:CI w a f)(r:∀(g:Nat)c t j,w.heap[g]?=some (.cells c t j)->(t=145∨t=187)->w'.heap[g]?=some (.cells c t j)):CI w' a f:=by
 obtain⟨⟨b,o,e,E,H,sa,B,A,I⟩,K,C⟩:=h;injection e with e;injection e with e;subst e;obtain⟨c,s⟩:=K _ rfl;have z:w'.heap[b]?=w.heap[b]?:=(r b _ _ _ s (.inl rfl)).c s.y;have key:∀i,w'.cell? ⟨b,i,none⟩=w.cell? ⟨b,i,none⟩:=λi=>yR (w:=w) z;refine⟨⟨b,o,rfl,(key _).c E,(key _).c H,sa,B,(key _).c A,λi v hv=>?_⟩,λM m=>?_,λG n J u d k e l=>?_⟩
 .obtain⟨d,k,e,D,v1,v2⟩:=I i v hv;obtain⟨x,j,O⟩:=C sa _ B A d k e (λq=>by rw[q]at hv;simp at hv);have L:w'.heap[d]?=w.heap[d]?:=(r d _ _ _ O (.inr rfl)).c O.y;have p:∀i,w'.cell? ⟨d,i,none⟩=w.cell? ⟨d,i,none⟩:=λi=>yR (w:=w) L;exact⟨d,k,e,(p _).c D,(p _).c v1,(p _).c v2⟩
 .injection m with m;subst m;exact⟨c,z.c s⟩
 rw[key]at u;obtain⟨x,j,O⟩:=C G n J u d k e l;exact⟨x,j,r d _ _ _ O (.inr rfl)⟩
def CI.O{w w' a f}(h:CI w a f)(d:CK w w'):CI w' a f:=h.keep λg c t e b _=>d g c t e b
def CI.d{w w' a f}(h:CI w a f)(b:Bw w w'):CI w' a f:=h.O (CK.m b)
def CI.ft{base w w' a f}(h:CI w a f)(d:Dr base w w'):CI w' a f:=h.keep λg c t e b ht=>d.kept g c t e b qA qA
def G9(adr:F->Addr)(U:List F)(w:World):Prop:=∀f∈U,CI w (adr f) f
def G9.G{adr U w}(h:G9 adr U w):Br adr U w:=λf a=>⟨(h f a).N,(h f a).pt⟩
def G9.O{adr U w w'}(h:G9 adr U w)(a:CK w w'):G9 adr U w':=λf b=>(h f b).O a
def G9.ft{base adr U w w'}(h:G9 adr U w)(b:Dr base w w'):G9 adr U w':=λf a=>(h f a).ft b
def Ag.ft{base w w' b L}(h:Ag w b L)(d:Dr base w w'):Ag w' b L:=by
 obtain⟨es,a,k,j⟩:=h.N;exact⟨⟨es,a,d.maps b _ k (λ_ _ _ e=>qo),j⟩,h.nd,λy f=>(h.ok y f).aV λg c i=>d.kept g c _ _ i qh qh⟩
def CS.ft{base w w' cb nb wb T M}(h:CS w cb nb wb T M)(a:Dr base w w'):CS w' cb nb wb T M:=⟨a.kept _ _ _ _ h.q qh qh,h.now.ft a,h.ab.ft a,h.ne⟩
def z8(base z mb B J L n V Q D f w M)(ax:D=.pointer (some M))(hF:CI w M f)(I:NF w base z mb B J L n V (λ_=>Q))(hB:base<=w.heap.size)(hL:L.length<=1000)(hQ:Q.length<=1000)(U:∀x∈L,x.1.x.length<=1048576) :
  Ca 91 #[.pointer (some ⟨z,0,none⟩),D] w λe w'=>e=.returned (.tuple #[])/\(∃V',NF w' base z mb B J L n V' (λ_=>Q++[(D,f)]))/\Dr base w w':=by
 subst ax;obtain⟨a,d,rfl⟩:∃a d,M=⟨a,d,none⟩:=by
  obtain⟨a,d,h,_⟩:=hF.N;injection h with h;injection h with h;exact⟨a,d,h⟩
 obtain⟨HF,R,H6,ar⟩:=Bn hF I U (i7 hF.N);obtain⟨⟨g0,g1⟩,_,aA⟩:=I.box.G;clear hF I U;go_enter func91,ntmps91;go_wp2_with fail;clear g0 g1
 go_loopw [11] (λiv wr=>∃(k:Nat)(V':List Value),iv=.int .i64 (k:Int)/\k<=L.length/\NF wr base z mb B J L n V' (λi=>if i<k then Q++[(.pointer (some ⟨a,d,none⟩),f)] else Q)/\Dr base w wr) (mz L.length)
 case atStart=>exact⟨0,V,rfl,yk _,R.o.same (λi x _=>qe),Dr.refl _ _⟩
 case round=>
  obtain⟨k,V',rfl,aB,ak,H⟩:=hrel;obtain⟨NR,FR⟩:=Ah ak H;have aD:=H.rest.size;clear ak H R;by_cases E:k<L.length
  .obtain⟨x,s⟩:=Ba E;obtain⟨nb,t⟩:∃b,n[k]?=some b:=⟨n[k]'(by rw[NR.o.aX];exact E),qe⟩
   obtain⟨v,hv⟩:∃v,V'[k]?=some v:=⟨V'[k]'(by rw[NR.o.aL];exact E),qe⟩
   obtain⟨rb,rfl,_,r0,_⟩:=BM NR.o.row (show(EO n)[k]?=some (.pointer (some ⟨nb,0,none⟩)) by simp[EO,t]);obtain⟨j,n2,⟨fa,fc,rfl⟩,l⟩:=NR.o.node k x nb v s t hv;simp only[WA,if_false]at hv j l;obtain⟨na,nc,Z⟩:=j.nd (NR.o.aK x (yd s));have HP:=Aa (OP nb x.1 na nc (.pointer (some ⟨a,d,none⟩)) f wr Z (HF.o.ft FR.o).N (H6.o x (yd s)));have aa:(Cg x.1 Q).length<=1000:=yh (y8 _ _) hQ;have z0:(0:Int)<=(k:Int):=qd;have z1:(k:Int)<(L.length:Int):=qd;obtain⟨HX,W,ao⟩:=AA s t hv;clear s t hv j l Z;cases hm:Ae x.1 f
   .exact oh
   have HM:=Aa hm;rw[hm]at HP;clear hm;go_wp2_with fail;refine HP.o.rtn λw3 O=>?_;obtain⟨N3,F3⟩:=Ah (NR.o.C O) (FR.o.c (Dr.m O qd));have aC:=O.size;clear O HP r0;obtain⟨j,_,_,l⟩:=N3.o.node k x nb _ HX.o W.o ao.o;simp only[WA,if_false]at l;obtain⟨N1,T⟩:=Ah j l;obtain⟨⟨_,_,_,y4⟩,_,aw⟩:=j.G;have r:=Aa (λo=>An.alloc AH o:∀o,Bw w3 (w3.alloc o));have az:∀o,(w3.alloc o).cell? ⟨nb,4,none⟩=some (.slice fa (Cg x.1 Q).length fc):=λo=>zab (r.o o) y4;obtain⟨ay,TY⟩:=Ah (λo=>(show EI (w3.alloc o) nb x k (.slice fa (Cg x.1 Q).length fc) from((r.o o).block nb aw).c N1.o)) (λo g hg=>AO (AF T.o (r.o o)) (k:=g) hg);have aq:base<=w3.heap.size:=qd;clear j l;go_upto_region 5 with(first|(at_builtin;refine CN qi (.tmp 22) (.tmp 24) 199 qi base 106 _ 1 8 underlying199 gd qi qd _ (Cg x.1 Q).length _ qi (AF T.o (r.o _)) (some ⟨_,0,none⟩) 1 1 qi [.pointer (some ⟨a,d,none⟩)] qi (λe=>qo) (Cv _ _ _ _ qG) (by intro u hu;rw[yp]at hu;rw[hu];exact ar.o) qj qd (yh aq (r.o _).size) ?_;intro a7 c7 w7 A q K;have Y:=Aa (show EI w7 nb x k (.slice fa (Cg x.1 Q).length fc) from Ef (ay.o _) q.o (TY.o _) qh);obtain⟨_,z4,_⟩:=Y.o.G)|fail);refine XM Y.o ?_;intro w8 hN8 ht8;have hR:=NF.push (QQ:=λi=>if i<k then Q++[(.pointer (some ⟨a,d,none⟩),f)] else Q) (p:=.pointer (some ⟨a,d,none⟩)) (f:=f) (fa:=a7) (fc:=c7) N3.o HX.o W.o ao.o HM.o aq (by simpa using A.o) q.o (by simpa using K.o) (by simpa using hN8) ht8;exact og
  have au:k=L.length:=qd;subst au;exact Zz
end
def BK:List Cn->List F->List (List F)
 |[],T=>[T]
 |c::cs,T=>if c.neg=true then(if c.G.any (λf=>c.x.all (Ap T f))=true then [] else BK cs T) else c.G.flatMap (λf=>if c.x.all (Ap T f)=true then BK cs (T++[f]) else [])
def Xe{c cs T}(h:c.neg=true):BK (c::cs) T=if c.G.any (λf=>c.x.all (Ap T f))=true then [] else BK cs T:=by
 simp only[BK];rw[if_pos h]
def V2{c cs T}(h:c.neg=false):BK (c::cs) T=c.G.flatMap (λf=>if c.x.all (Ap T f)=true then BK cs (T++[f]) else []):=by
 simp only[BK];rw[if_neg (by rw[h];simp)]
def To{α β:Type}(p q:α->Bool)(g:α->List β):∀l:List α,(l.filter p).flatMap (λx=>if q x=true then g x else [])=(l.filter (λx=>p x&&q x)).flatMap g
 |[]=>rfl
 |x::r=>by
  by_cases a:p x=true
  .by_cases b:q x=true
   .rw[yD a,yD (by simp[a,b]),yL,yL,if_pos b,To p q g r]
   rw[yD a,yJ (by simp[b]),yL,if_neg b,To p q g r]
   rfl
  rw[yJ a,yJ (by simp[a]),To p q g r]
def j8{fs}:∀(cs:List Cn)(O:List Cp),cs.length=O.length->(∀(k:Nat)(c:Cn)(d:Cp),cs[k]?=some c->O[k]?=some d->Iy fs c d)->∀T,BK cs T=Ci O fs T
 |[],[],_,_,_=>rfl
 |[],_::_,h,_,_=>by simp at h
 |_::_,[],h,_,_=>by simp at h
 |c::cs,d::O,hl,he,T=>by
  obtain⟨e,i,a,j,f⟩:=he 0 c d rfl rfl
  have ih:=j8 cs O Lu (λk g b hc hd=>he (k+1) g b Nx qy)
  simp only[BK,Ci]
  rw[e,a,f,zmw,To]
  simp only[ih]
  rfl
def Dz:List Cn->List F->Prop
 |[],_=>True
 |c::cs,T=>c.N=T.length/\(c.neg=false->T.length<3)/\(∀f∈c.G,∀t∈c.x,t.V T f)/\(if c.neg=true then Dz cs T else∀f∈c.G,c.x.all (Ap T f)=true->Dz cs (T++[f]))
def NK.snoc{T vs f}(h:NK T vs):NK (T++[f]) vs:=λv hv=>by
 obtain⟨g,a,b⟩:=h v hv;exact⟨g,by rw[yr (ye.1 a).1];exact a,b⟩
def Xr{fs}:∀(b:List Pt)(vs:List Vr)(T:List F)(cs:List Cn),Fq b vs T.length->NK T vs->T.length+Ad b<=3->cs.length=(Bm b vs T.length).length->(∀(k:Nat)(c:Cn)(d:Cp),cs[k]?=some c->(Bm b vs T.length)[k]?=some d->Iy fs c d)->Dz cs T
 |[],_,_,[],_,_,_,_,_=>trivial
 |[],_,_,_::_,_,_,_,h,_=>by simp[Bm]at h
 |_::_,_,_,[],_,_,_,h,_=>by simp[Bm]at h
 |p::b,vs,T,c::cs,hk,hV,hn,hl,he=>by
  obtain⟨w,_,O⟩:=hk
  simp only[Bm]at hl he
  obtain⟨q,u,v,y,s⟩:=he 0 c _ rfl rfl
  simp only at q u v y s
  have l:∀f∈c.G,∀t∈c.x,t.V T f:=λf m=>by
   rw[s]at m
   rw[v]
   exact wN hV w (yf.1 m).2
  have r:∀(k:Nat)(o:Cn)(n:Cp),cs[k]?=some o->(if p.neg=true then Bm b vs T.length else Bm b (CL vs p.e T.length p.e.length) (T.length+1))[k]?=some n->Iy fs o n:=λk o n hc hd=>he (k+1) o n Nx qy
  have j:cs.length=(if p.neg=true then Bm b vs T.length else Bm b (CL vs p.e T.length p.e.length) (T.length+1)).length:=Lu
  by_cases a:p.neg=true
  .have A:Ad (p::b)=Ad b:=by simp[Ad,FW,a]
   rw[if_pos a]at O j r
   refine⟨u,λhc=>?_,l,?_⟩
   .rw[q,a]at hc
    cases hc
   rw[if_pos (by rw[q];exact a)]
   exact Xr b vs T cs O hV qd j r
  have A:Ad (p::b)=Ad b+1:=by simp[Ad,FW,a]
  rw[if_neg a]at O j r
  refine⟨u,λ_=>qd,l,?_⟩
  rw[if_neg (by rw[q];exact a)]
  intro f m _
  rw[s]at m
  have z:=(yf.1 m).2
  have i:(T++[f]).length=T.length+1:=qe
  refine Xr b _ (T++[f]) cs (by rw[i];exact O) (Ve hV.snoc (g:=f) qe (my w z) _ AH) (by rw[i];omega) (by rw[i];exact j) (by rw[i];exact r)
end Go.Proofs.YtikojfajahnhgaaGreat
