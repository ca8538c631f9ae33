import Derived.Test.YtikojfajahnhgaaGreatKav
set_option linter.all false
set_option maxHeartbeats 6400000
set_option maxRecDepth 100000
namespace Go.Proofs.YtikojfajahnhgaaGreat
attribute [local simp] At I6 Pn mzI
attribute [local go_sem] At I6 Pn
open Go.RowKit Go.Proofs.Tryz
variable{P:Prop}
section
attribute [local go_sem ↓] wp_at_zero wp_at_succ
def oF(h:P:=by(try dsimp only);(go_split_ands;refine⟨?_,?_,?_,?_,?_,?_⟩<;>first|(simp[*];done))):=h
def nH(h:P:=by
 go_roundw
 case rel=>exact⟨k+1,a',c',by omega,by go_num,by rw[aj.o];exact ah.o.J af,by rw[aj.o];exact Bg HO.o af,hb.aj af⟩
 case measure=>(simp;omega)
 ):=h
def nQ(h:P:=by go_simp;refine hK.o _ _ (by(try dsimp only);(go_split_ands;refine⟨?_,?_,?_,?_,?_,?_⟩<;>first|(simp[go_sem, *];done)|exact zab Af (by assumption))) λY=>?_):=h
def oM(h:P:=by go_simp;refine hK.o _ _ (by(try dsimp only);(go_split_ands;refine⟨?_,?_,?_,?_,?_,?_⟩<;>first|(simp[go_sem, *];done)|exact zab Af (by assumption))) λY=>?_;replace hHeld:=Y;clear hK K Y;(try simp only[pA,pZ,pS,pN]);refine r1 1 λK hK=>?_;go_simp;refine hK.o _ _ (by(try dsimp only);(go_split_ands;refine⟨?_,?_,?_,?_,?_,?_⟩<;>first|assumption)) λY=>?_):=h
def oT(h:P:=by
 go_simp;refine hK.o _ _ (by(try dsimp only);(go_split_ands;refine⟨?_,?_,?_,?_,?_,?_⟩<;>first|(simp[go_sem, *];done))) λY=>?_;replace hHeld:=Y;clear hK K Y;(try simp only[pA,pZ,pS,pN]);refine wpAnyH_done (by kernel_rfl) ?_ _;refine Yf ?_;have ar:w3.ownsRow (w1.heap.size+1) 320 6 (.slice a3 (BN p.aa (k+1)).length ax) (BN p.aa (k+1)).length ((BN p.aa (k+1)).flatMap Cj):=by
  have:=az.o;rw[aj.o,Yu];simpa[Cj] using this
 have hlen:(BN p.aa (k+1)).length=(BN p.aa k).length+1:=by rw[aj.o];simp
 obtain⟨u1,u2,u3⟩:=UY ah.o av ar hb;rw[hlen]at u1 u2 u3;go_wp2;go_roundw
 case rel=>exact⟨k+1,a3,ax,by omega,by go_num,by rw[hlen];exact u1,by rw[hlen];exact u2,u3⟩
 case measure=>(simp;omega)
 ):=h
def zlh(p d c){q}(w)(aq:CJ q w d p.aa)(hc:p.ak.size<=maxLen)(hs:CP Tm.le maxLen p.aa)(hl:p.aa.length<=1048576)(aR:p.aa.length<=c) :
  Ca 204 #[.agg #[.bool p.neg,.string p.ak,.slice d p.aa.length c]] w λe w'=>
   (∃a' c',e=.returned (.agg #[.string (C0 p).ak,I6 (C0 p).arity,.slice a' (C0 p).ah.length c'])/\w'.ownsRow w.heap.size 320 6 (.slice a' (C0 p).ah.length c') (C0 p).ah.length ((C0 p).ah.flatMap Cj))/\Bw w w':=by
 have aK:=Aa (λw' h=>lh p d c (q:=q) w' h hc hs hl);cases m:Dc p
 .rw[m]at aK;have L:Hid (C0 p=⟨⟨#[]⟩,0,[]⟩):=show C0 p=_ from by simp[C0,m]
  go_enter func204,ntmps204;go_wp2_with (go_at_call 198;refine(aK.o _ (aq.J Ax)).an λw1 E=>?_;have hr:=((C3.made (w.alloc (.cells #[.bool p.neg,.string p.ak,.slice d p.aa.length c] 152)) 245 (.string ⟨#[]⟩) (I6 0) (.slice none 0 0)).J E);simp only[Wy]at hr;obtain⟨r0,r1,r2,f0,f1,f2⟩:=hr);have aL:Bw w w1:=Ax.aj E;refine bodyPost_ret (v:=.agg #[.string ⟨#[]⟩,I6 0,.slice none 0 0]) (by simp[results,results204,go_sem,r0,r1,r2]) rfl ⟨⟨none,0,by rw[L.o];rfl,by rw[L.o];exact y9 _ _ _ _⟩,?_⟩;exact((aL.setCell qe _).setCell qe _).setCell qe _
 rw[m]at aK;have L:Hid (C0 p=⟨p.ak,(p.aa.length:Int),BN p.aa p.aa.length⟩):=show C0 p=_ from by simp[C0,m]
 have h6:=UE m;have aU:=Aa (λi t ht=>gh m (i:=i) (t:=t) ht);clear m;go_enter func204,ntmps204;go_wp2_with (go_at_call 198;refine(aK.o _ (aq.J Ax)).an λw1 E=>?_;have hr:=((C3.made (w.alloc (.cells #[.bool p.neg,.string p.ak,.slice d p.aa.length c] 152)) 245 (.string ⟨#[]⟩) (I6 0) (.slice none 0 0)).J E);simp only[Wy]at hr;have hp:=(((C3.made w 152 (.bool p.neg) (.string p.ak) (.slice d p.aa.length c)).J Af).J E);obtain⟨Z,W,N,_,_,_⟩:=id hp;have aQ:∀o,At (w1.alloc o) w.heap.size 2 (.slice d p.aa.length c):=λo=>zab Af N);have aL:Bw w w1:=Ax.aj E;have ab:=hr.lt;obtain⟨HR,HP⟩:=Ak hr hp;clear hr hp Z W N aQ
 go_loopw [20] (λi wr=>∃(k:Nat)(a':Option Addr)(c':Nat),k<=p.aa.length/\i=I6 k/\C3 wr w1.heap.size (.string p.ak) (I6 (p.aa.length:Int)) (.slice a' (BN p.aa k).length c')/\wr.ownsRow (w1.heap.size+1) 320 6 (.slice a' (BN p.aa k).length c') (BN p.aa k).length ((BN p.aa k).flatMap Cj)/\Bw w1 wr) (mz p.aa.length)
 case atStart=>exact⟨0,none,0,qd,rfl,C3.made _ _ _ _ _,y9 _ _ _ _,Af⟩
 case round=>
  obtain⟨k,a',c',hk,rfl,U,y,hb⟩:=hrel;obtain⟨HO,ah⟩:=Ak y U;clear y;have aX:=U.lt;have z:Bw w wr:=aL.aj hb;have aO:=HR.o.aJ hb ab;have M:=HP.o.aJ hb qd;by_cases aT:k<p.aa.length
  .obtain⟨t,T⟩:=AJ aT;obtain⟨b,o,ea,hq,c0,c1,c2,c3,c4,c5⟩:=(aq.J z).get T;subst ea;have aM:=aU.o k t T;have aI:=Aa (zt T);have aY:=Sq p.aa k;obtain⟨u,H,aH⟩:=AQ (λw' h=>j5 p (some ⟨b,o,none⟩) c (q:=q) k t w' h T hl aR) (λo=>(aq.J z).J (Ez o)) (λw'=>lf t w');have Z:∀o,(wr.alloc o).cell? ⟨w.heap.size,0,none⟩=_:=λo=>zab (Ez o) M.1;have W:∀o,(wr.alloc o).cell? ⟨w.heap.size,1,none⟩=_:=λo=>zab (Ez o) M.2.1;have N:∀o,(wr.alloc o).cell? ⟨w.heap.size,2,none⟩=_:=λo=>zab (Ez o) M.2.2.1;clear aO U M;by_cases D:t.kind=0
   .have aj:Hid (BN p.aa (k+1)=BN p.aa k):=show BN p.aa (k+1)=_ from by rw[aI.o];simp[EF,D]
    rw[D]at c0;go_wp2_with (go_at_call 207;refine(u.o _ (H.o _)).an λf O=>?_;have x0:At f wr.heap.size 0 (I6 0):=zab O qk;have x1:At f wr.heap.size 1 (I6 t.op):=zab O qk;have x2:At f wr.heap.size 2 (.string t.var):=zab O qk;have x3:At f wr.heap.size 3 (I6 t.val.kind):=zab O qk;have x4:At f wr.heap.size 4 (I6 t.val.num):=zab O qk;have x5:At f wr.heap.size 5 (.string t.val.av):=zab O qk;have af:Bw wr f:=Af.aj O;have I:=(ah.o.J af).2.2.1;have aE:=af.size);exact nH
   cases G:t.var.toList.isEmpty
   .have aW:=Aa (uR aM G);cases R:Ai p.aa k t.var with
    |none=>
     have aj:Hid (BN p.aa (k+1)=BN p.aa k):=show BN p.aa (k+1)=_ from by rw[aI.o];simp[EF,G,R]
     rw[R]at u;simp only[QX]at u;go_wp2_with (go_at_call 207;refine(u.o _ (H.o _)).an λf O=>?_;have x0:At f wr.heap.size 0 (I6 t.kind):=zab O qk;have x1:At f wr.heap.size 1 (I6 t.op):=zab O qk;have x2:At f wr.heap.size 2 (.string t.var):=zab O qk;have x3:At f wr.heap.size 3 (I6 t.val.kind):=zab O qk;have x4:At f wr.heap.size 4 (I6 t.val.num):=zab O qk;have x5:At f wr.heap.size 5 (.string t.val.av):=zab O qk;have af:Bw wr f:=Af.aj O;have I:=(ah.o.J af).2.2.1;have aE:=af.size);exact nH
    |some C=>
     have aj:Hid (BN p.aa (k+1)=BN p.aa k++[⟨(k:Int),BH t,(C:Int),Jm⟩]):=show BN p.aa (k+1)=_ from by rw[aI.o];simp[EF,D,G,R]
     rw[R]at u;simp only[QX]at u;have aS:((C:Int) != -1)=true:=qe;go_wp2_with (go_at_call 207;refine(u.o _ (H.o _)).an λf O=>?_;have x0:At f wr.heap.size 0 (I6 t.kind):=zab O qk;have x1:At f wr.heap.size 1 (I6 t.op):=zab O qk;have x2:At f wr.heap.size 2 (.string t.var):=zab O qk;have x3:At f wr.heap.size 3 (I6 t.val.kind):=zab O qk;have x4:At f wr.heap.size 4 (I6 t.val.num):=zab O qk;have x5:At f wr.heap.size 5 (.string t.val.av):=zab O qk;have af:Bw wr f:=Af.aj O;have I:=(ah.o.J af).2.2.1;have aE:=af.size);clear c0 c1 c2 c3 c4 c5 Z W N O u H D G aM hq aS R;refine wp_region_noPanic ?_;refine wp_region_held_drew (S:=(λw'=>At w' wr.heap.size 0 (I6 t.kind)/\At w' wr.heap.size 1 (I6 t.op)/\At w' wr.heap.size 2 (.string t.var)/\At w' wr.heap.size 3 (I6 t.val.kind)/\At w' wr.heap.size 4 (I6 t.val.num)/\At w' wr.heap.size 5 (.string t.val.av))) qf ?_ (λhHeld=>?_)
     .exact oF
     refine sr 0 1 ?_;refine sr 2 4 ?_;refine sr 5 6 ?_;refine r2 1 4 (λK hK=>?_) λK hK=>?_
     .go_simp;refine hK.o _ _ (by(try dsimp only);(go_split_ands;refine⟨?_,?_,?_,?_,?_,?_⟩<;>first|(simp[*];done))) λY=>?_;replace hHeld:=Y;clear hK K Y;(try simp only[pA,pZ,pS,pN]);refine r1 4 λK hK=>?_;go_simp;(go_at_call 208;refine(aH.o _).ac ?_;rintro e' x ⟨rfl,n⟩);(try go_wp2_with fail);refine hK.o _ _ (by(try dsimp only);(go_split_ands;refine⟨?_,?_,?_,?_,?_,?_⟩<;>first|exact zab n qj)) λY=>?_;replace hHeld:=Y;clear hK K Y;(try simp only[pA,pZ,pS,pN]);have am:Bw wr x:=af.drew.j (n.ac TF);refine sr 6 7 ?_;refine r1 7 λK hK=>?_;go_simp;refine hK.o _ _ (by(try dsimp only);(go_split_ands;refine⟨?_,?_,?_,?_,?_,?_⟩<;>first|(simp[go_sem, *];done)|exact zab Af qj)) λY=>?_;replace hHeld:=Y;clear hK K Y;(try simp only[pA,pZ,pS,pN]);have r:=am.alloc Tq (.cells (Cj ⟨(k:Int),BH t,(C:Int),Jm⟩).toArray 320);have ai:=r.size;refine r1 8 λK hK=>?_;(refine IY qi (.tmp 51) (.tmp 57) 243 qi (w1.heap.size+1) 320 _ 6 56 underlying243 RQ qi qd _ (BN p.aa k).length _ qi (Bg HO.o r) (some ⟨_,0,none⟩) 1 1 qi (Cj ⟨(k:Int),BH t,(C:Int),Jm⟩) qi (λe=>qp) (Et _ _ _ _ qi) (Qn _) qm qd qK ?_;intro a3 ax w3 az s aN;have A:(Value.slice a' (BN p.aa k).length c').ownBlock≠some wr.heap.size:=(λe=>Tw);have av:Below (w1.heap.size+1) wr w3:=((r.ac qd).grown s.o qK (λg m=>(HO.o.lt g m).1));obtain⟨_,_,m2,_,_,n2⟩:=ah.o.aJ av qd);refine hK.o _ _ (by(try dsimp only);(go_split_ands;refine⟨?_,?_,?_,?_,?_,?_⟩<;>first|exact(Jl s.o A TE).j qj)) λY=>?_;replace hHeld:=Y;clear hK K Y;(try simp only[pA,pZ,pS,pN]);refine sr 9 10 ?_;refine r1 10 λK hK=>?_;exact oT
     go_simp;(go_at_call 208;refine(aH.o _).ac ?_;rintro e' x ⟨rfl,n⟩);(try go_wp2_with fail);refine hK.o _ _ (by(try dsimp only);(go_split_ands;refine⟨?_,?_,?_,?_,?_,?_⟩<;>first|exact zab n qj)) λY=>?_;replace hHeld:=Y;clear hK K Y;(try simp only[pA,pZ,pS,pN]);have am:Bw wr x:=af.drew.j (n.ac TF);have q4:=zab n (show f.drew.cell? ⟨w1.heap.size,2,none⟩=_ from I);have q5:∀o,(x.alloc o).cell? ⟨w1.heap.size,2,none⟩=_:=λo=>zab Af q4;refine sr 6 7 ?_;refine r2 1 7 (λK hK=>?_) λK hK=>?_
     focus
      go_simp;refine hK.o _ _ (by(try dsimp only);(go_split_ands;refine⟨?_,?_,?_,?_,?_,?_⟩<;>first|assumption|exact zab n qj)) λY=>?_;replace hHeld:=Y;clear hK K Y;(try simp only[pA,pZ,pS,pN]);refine r1 7 λK hK=>?_;go_simp;refine hK.o _ _ (by(try dsimp only);(go_split_ands;refine⟨?_,?_,?_,?_,?_,?_⟩<;>first|(simp[go_sem, *];done)|exact zab Af (by assumption))) λY=>?_
     rotate_left
     focus
      go_simp;refine hK.o _ _ (by(try dsimp only);(go_split_ands;refine⟨?_,?_,?_,?_,?_,?_⟩<;>first|(simp[go_sem, *];done)|exact zab Af (by assumption))) λY=>?_;replace hHeld:=Y;clear hK K Y;(try simp only[pA,pZ,pS,pN]);refine r1 1 λK hK=>?_;go_simp;refine hK.o _ _ (by(try dsimp only);(go_split_ands;refine⟨?_,?_,?_,?_,?_,?_⟩<;>first|assumption)) λY=>?_
     rotate_left
     all_goals
      replace hHeld:=Y;clear hK K Y;(try simp only[pA,pZ,pS,pN]);have r:=am.alloc Tq (.cells (Cj ⟨(k:Int),BH t,(C:Int),Jm⟩).toArray 320);have ai:=r.size;refine r1 8 λK hK=>?_;(refine IY qi (.tmp 51) (.tmp 57) 243 qi (w1.heap.size+1) 320 _ 6 56 underlying243 RQ qi qd _ (BN p.aa k).length _ qi (Bg HO.o r) (some ⟨_,0,none⟩) 1 1 qi (Cj ⟨(k:Int),BH t,(C:Int),Jm⟩) qi (λe=>qp) (Et _ _ _ _ qi) (Qn _) qm qd qK ?_;intro a3 ax w3 az s aN;have A:(Value.slice a' (BN p.aa k).length c').ownBlock≠some wr.heap.size:=(λe=>Tw);have av:Below (w1.heap.size+1) wr w3:=((r.ac qd).grown s.o qK (λg m=>(HO.o.lt g m).1));obtain⟨_,_,m2,_,_,n2⟩:=ah.o.aJ av qd);refine hK.o _ _ (by(try dsimp only);(go_split_ands;refine⟨?_,?_,?_,?_,?_,?_⟩<;>first|exact(Jl s.o A TE).j qj)) λY=>?_;replace hHeld:=Y;clear hK K Y;(try simp only[pA,pZ,pS,pN]);refine sr 9 10 ?_;refine r1 10 λK hK=>?_;go_simp;refine hK.o _ _ (by(try dsimp only);(go_split_ands;refine⟨?_,?_,?_,?_,?_,?_⟩<;>first|(simp[go_sem, *];done))) λY=>?_;replace hHeld:=Y;clear hK K Y;(try simp only[pA,pZ,pS,pN]);refine wpAnyH_done qf ?_ _;refine Yf ?_;have ar:w3.ownsRow (w1.heap.size+1) 320 6 (.slice a3 (BN p.aa (k+1)).length ax) (BN p.aa (k+1)).length ((BN p.aa (k+1)).flatMap Cj):=by
       have:=az.o;rw[aj.o,Yu];simpa[Cj] using this
      have hlen:(BN p.aa (k+1)).length=(BN p.aa k).length+1:=by rw[aj.o];simp
      obtain⟨u1,u2,u3⟩:=UY ah.o av ar hb;rw[hlen]at u1 u2 u3;go_wp2;go_roundw
      case rel=>exact⟨k+1,a3,ax,qd,ql,by rw[hlen];exact u1,by rw[hlen];exact u2,u3⟩
      case measure=>(simp;omega)
   have aj:Hid (BN p.aa (k+1)=BN p.aa k++[⟨(k:Int),BH t, -1,t.val⟩]):=show BN p.aa (k+1)=_ from by rw[aI.o];simp[EF,D,G]
   go_wp2_with (go_at_call 207;refine(u.o _ (H.o _)).an λf O=>?_;have x0:At f wr.heap.size 0 (I6 t.kind):=zab O qk;have x1:At f wr.heap.size 1 (I6 t.op):=zab O qk;have x2:At f wr.heap.size 2 (.string t.var):=zab O qk;have x3:At f wr.heap.size 3 (I6 t.val.kind):=zab O qk;have x4:At f wr.heap.size 4 (I6 t.val.num):=zab O qk;have x5:At f wr.heap.size 5 (.string t.val.av):=zab O qk;have af:Bw wr f:=Af.aj O;have I:=(ah.o.J af).2.2.1;have aE:=af.size);clear c0 c1 c2 c3 c4 c5 Z W N O u H D G aM hq;refine wp_region_noPanic ?_;refine wp_region_held_drew (S:=(λw'=>At w' wr.heap.size 0 (I6 t.kind)/\At w' wr.heap.size 1 (I6 t.op)/\At w' wr.heap.size 2 (.string t.var)/\At w' wr.heap.size 3 (I6 t.val.kind)/\At w' wr.heap.size 4 (I6 t.val.num)/\At w' wr.heap.size 5 (.string t.val.av))) qf ?_ (λhHeld=>?_)
   .exact oF
   refine sr 0 1 ?_;refine sr 2 4 ?_;refine sr 5 7 ?_;refine r2 1 4 (λK hK=>?_) λK hK=>?_
   .go_simp;refine hK.o _ _ (by(try dsimp only);(go_split_ands;refine⟨?_,?_,?_,?_,?_,?_⟩<;>first|(simp[*];done))) λY=>?_;replace hHeld:=Y;clear hK K Y;(try simp only[pA,pZ,pS,pN]);refine r1 4 λK hK=>?_;go_simp;(go_at_call 208;refine(aH.o _).ac ?_;rintro e' x ⟨rfl,n⟩);(try go_wp2_with fail);refine hK.o _ _ (by(try dsimp only);(go_split_ands;refine⟨?_,?_,?_,?_,?_,?_⟩<;>first|exact zab n qj)) λY=>?_;replace hHeld:=Y;clear hK K Y;(try simp only[pA,pZ,pS,pN]);have am:Bw wr x:=af.drew.j (n.ac TF);refine sr 7 8 ?_;refine r1 8 λK hK=>?_;go_simp;refine hK.o _ _ (by(try dsimp only);(go_split_ands;refine⟨?_,?_,?_,?_,?_,?_⟩<;>first|(simp[go_sem, *];done)|exact zab Af qj)) λY=>?_;replace hHeld:=Y;clear hK K Y;(try simp only[pA,pZ,pS,pN]);have r:=am.alloc Tq (.cells (Cj ⟨(k:Int),BH t, -1,t.val⟩).toArray 320);have ai:=r.size;refine r1 9 λK hK=>?_;(refine IY qi (.tmp 37) (.tmp 44) 243 qi (w1.heap.size+1) 320 _ 6 56 underlying243 RQ qi qd _ (BN p.aa k).length _ qi (Bg HO.o r) (some ⟨_,0,none⟩) 1 1 qi (Cj ⟨(k:Int),BH t, -1,t.val⟩) qi (λe=>qp) (Et _ _ _ _ qi) (Qn _) qm qd qK ?_;intro a3 ax w3 az s aN;have A:(Value.slice a' (BN p.aa k).length c').ownBlock≠some wr.heap.size:=(λe=>Tw);have av:Below (w1.heap.size+1) wr w3:=((r.ac qd).grown s.o qK (λg m=>(HO.o.lt g m).1));obtain⟨_,_,m2,_,_,n2⟩:=ah.o.aJ av qd);refine hK.o _ _ (by(try dsimp only);(go_split_ands;refine⟨?_,?_,?_,?_,?_,?_⟩<;>first|exact(Jl s.o A TE).j qj)) λY=>?_;replace hHeld:=Y;clear hK K Y;(try simp only[pA,pZ,pS,pN]);refine sr 10 11 ?_;refine r1 11 λK hK=>?_;exact oT
   go_simp;(go_at_call 208;refine(aH.o _).ac ?_;rintro e' x ⟨rfl,n⟩);(try go_wp2_with fail);refine hK.o _ _ (by(try dsimp only);(go_split_ands;refine⟨?_,?_,?_,?_,?_,?_⟩<;>first|exact zab n qj)) λY=>?_;replace hHeld:=Y;clear hK K Y;(try simp only[pA,pZ,pS,pN]);have am:Bw wr x:=af.drew.j (n.ac TF);have q4:=zab n (show f.drew.cell? ⟨w1.heap.size,2,none⟩=_ from I);have q5:∀o,(x.alloc o).cell? ⟨w1.heap.size,2,none⟩=_:=λo=>zab Af q4;refine sr 7 8 ?_;refine r2 1 8 (λK hK=>?_) λK hK=>?_
   focus
    go_simp;refine hK.o _ _ (by(try dsimp only);(go_split_ands;refine⟨?_,?_,?_,?_,?_,?_⟩<;>first|assumption|exact zab n qj)) λY=>?_;replace hHeld:=Y;clear hK K Y;(try simp only[pA,pZ,pS,pN]);refine r1 8 λK hK=>?_;go_simp;refine hK.o _ _ (by(try dsimp only);(go_split_ands;refine⟨?_,?_,?_,?_,?_,?_⟩<;>first|(simp[go_sem, *];done)|exact zab Af (by assumption))) λY=>?_
   rotate_left
   focus
    go_simp;refine hK.o _ _ (by(try dsimp only);(go_split_ands;refine⟨?_,?_,?_,?_,?_,?_⟩<;>first|(simp[go_sem, *];done)|exact zab Af (by assumption))) λY=>?_;replace hHeld:=Y;clear hK K Y;(try simp only[pA,pZ,pS,pN]);refine r1 1 λK hK=>?_;go_simp;refine hK.o _ _ (by(try dsimp only);(go_split_ands;refine⟨?_,?_,?_,?_,?_,?_⟩<;>first|assumption)) λY=>?_
   rotate_left
   all_goals
    replace hHeld:=Y;clear hK K Y;(try simp only[pA,pZ,pS,pN]);have r:=am.alloc Tq (.cells (Cj ⟨(k:Int),BH t, -1,t.val⟩).toArray 320);have ai:=r.size;refine r1 9 λK hK=>?_;(refine IY qi (.tmp 37) (.tmp 44) 243 qi (w1.heap.size+1) 320 _ 6 56 underlying243 RQ qi qd _ (BN p.aa k).length _ qi (Bg HO.o r) (some ⟨_,0,none⟩) 1 1 qi (Cj ⟨(k:Int),BH t, -1,t.val⟩) qi (λe=>qp) (Et _ _ _ _ qi) (Qn _) qm qd qK ?_;intro a3 ax w3 az s aN;have A:(Value.slice a' (BN p.aa k).length c').ownBlock≠some wr.heap.size:=(λe=>Tw);have av:Below (w1.heap.size+1) wr w3:=((r.ac qd).grown s.o qK (λg m=>(HO.o.lt g m).1));obtain⟨_,_,m2,_,_,n2⟩:=ah.o.aJ av qd);refine hK.o _ _ (by(try dsimp only);(go_split_ands;refine⟨?_,?_,?_,?_,?_,?_⟩<;>first|exact(Jl s.o A TE).j qj)) λY=>?_;replace hHeld:=Y;clear hK K Y;(try simp only[pA,pZ,pS,pN]);refine sr 10 11 ?_;refine r1 11 λK hK=>?_;go_simp;refine hK.o _ _ (by(try dsimp only);(go_split_ands;refine⟨?_,?_,?_,?_,?_,?_⟩<;>first|(simp[go_sem, *];done))) λY=>?_;replace hHeld:=Y;clear hK K Y;(try simp only[pA,pZ,pS,pN]);refine wpAnyH_done qf ?_ _;refine Yf ?_;have ar:w3.ownsRow (w1.heap.size+1) 320 6 (.slice a3 (BN p.aa (k+1)).length ax) (BN p.aa (k+1)).length ((BN p.aa (k+1)).flatMap Cj):=by
     have:=az.o;rw[aj.o,Yu];simpa[Cj] using this
    have hlen:(BN p.aa (k+1)).length=(BN p.aa k).length+1:=by rw[aj.o];simp
    obtain⟨u1,u2,u3⟩:=UY ah.o av ar hb;rw[hlen]at u1 u2 u3;go_wp2;go_roundw
    case rel=>exact⟨k+1,a3,ax,qd,ql,by rw[hlen];exact u1,by rw[hlen];exact u2,u3⟩
    case measure=>(simp;omega)
  have aP:k=p.aa.length:=qd;subst aP;obtain⟨o0,o1,o2,_,_,_⟩:=U;obtain⟨r0,r1,r2,f0,f1,f2⟩:=aO;clear M;go_wp2;refine bodyPost_ret (v:=.agg #[.string p.ak,I6 (p.aa.length:Int),.slice a' (BN p.aa p.aa.length).length c']) (by simp[results,results204,go_sem,r0,r1,r2]) rfl ⟨⟨a',c',by rw[L.o],?_⟩,?_⟩
  .rw[L.o];refine DT (BZ HO.o (λg m=>?_)) qd;have aV:=(HO.o.lt g m).1;exact(((Du.setCell (B:=w1.heap.size+1) qd _).j (Du.setCell qd _)).j (Du.setCell qd _)) g aV
  exact((z.setCell qe _).setCell qe _).setCell qe _
end
section
open Go.Maps
def OE{n}(a:-9223372036854775808<=n)(b:n<=9223372036854775807):(Lit.int .i64 n).wf=true:=by
 simp[Lit.wf,IntKind.min,IntKind.max,IntKind.signed,IntKind.bits];omega
def lD{ts}:∀{k:Nat}{u:Tt},u∈BN ts k->∃i t,i<k/\ts[i]?=some t/\EF ts i t=some u
 |0,u,h=>by simp[BN]at h
 |k+1,u,h=>by
  unfold BN at h
  rcases yr.1 h with h|h
  .obtain⟨i,t,d,c,b⟩:=lD h
   exact⟨i,t,qd,c,b⟩
  cases a:ts[k]? with
  |none=>rw[a]at h;simp at h
  |some t=>
   rw[a]at h
   simp at h
   exact⟨k,t,qd,a,h⟩
def zo3{p}(d:p.ak.size<=maxLen)(hv:∀t∈p.aa,C8 t.val):LM (C0 p):=by
 unfold C0;split
 .rename_i b;have g:=UE b;refine⟨d,OE (n:=(p.aa.length:Int)) qd qd,yi (Sq _ _) g,λu hu=>?_⟩;obtain⟨i,t,o,c,hu⟩:=lD hu;have e:=gh b c;have j:=hv t (yd c);have l:1<=BH t/\BH t<=6:=by
   unfold BH;split
   .rename_i hk;have f:t.kind=3:=QD;simp[Dt,f]at e;omega
   omega
  have O:(Lit.int .i64 (BH t)).wf=true:=OE qd qd;have Y:(Lit.int .i64 (i:Int)).wf=true:=OE qd qd;unfold EF at hu;split at hu
  .cases hu
  split at hu
  .injection hu with hu;subst hu;exact⟨⟨Y,O,(show(Lit.int .i64 (-1)).wf=true by decide),j⟩,by show BH t≠0;omega⟩
  cases a:Ai p.aa i t.var with
  |none=>rw[a]at hu;cases hu
  |some k=>
   rw[a]at hu;injection hu with hu;subst hu;have hk:k<0+(p.aa.take i).length:=Qh a;have m:k<6:=by simp at hk;omega
   exact⟨⟨Y,O,OE (n:=(k:Int)) qd qd,(show C8 Jm from⟨qh,qh,qh⟩)⟩,by show BH t≠0;omega⟩
 exact⟨qh,qh,qe,λu hu=>by simp at hu⟩
def GB(w:World)(gb mb:Nat)(v:Value):Prop:=w.heap[gb]?=some (.cells #[.map (some mb),v] 238 (0,0))
def T_(w:World)(b:Nat)(x:FP)(i:Nat):Prop:=w.heap[b]?=some (.cells #[.string x.1.ak,.int .i64 x.1.arity,x.2,.int .i64 (i:Int),.slice none 0 0] 247 (0,0))
def GB.facts{w a mb v}(h:GB w a mb v):(At w a 0 (.map (some mb))/\At w a 1 v)/\(∀j,w.frozen? ⟨a,j,none⟩=false)/\a<w.heap.size:=by
 unfold GB at h;refine⟨⟨?_,?_⟩,λj=>?_,As h⟩<;>simp[World.cell?,World.frozen?,h]
def GB.cM{w a mb v}(h:GB w a mb v)(x):GB (w.setCell ⟨a,1,none⟩ x) a mb x:=by
 have:=Fq (i:=1) h x;simpa[GB] using this
def uf{P:World->Prop}{w a mb v y}(O:GB w a mb v)(h:∀wt,GB wt a mb y->Turned w wt a->P wt):P (w.setCell ⟨a,1,none⟩ y):=h _ (O.cM y) (Turned.setCells [y] 1 w a)
def Fz(bs:List Nat):List Value:=bs.map λb=>.pointer (some ⟨b,0,none⟩)
structure NS(kl:Al->Lit) (w:World) (base gb mb:Nat) (la:Option Addr) (lc:Nat) (L:List FP) (bs:List Nat) (D:DataW Unit):Prop where
 box:GB w gb mb (.slice la L.length lc)
 map:w.ownsMap prog 323 Bx mb L.length D
 inv:NZ kl (L.map Prod.fst) bs D
 row:w.ownsRow base 194 1 (.slice la L.length lc) L.length (Fz bs)
 node:∀i x b,L[i]?=some x->bs[i]?=some b->T_ w b x i/\base<=b
 aX:∀x∈L,N0 w base x
 pair:(L.map Prod.snd).Pairwise AL
 bE:base<=gb/\base<=mb
def IK{w:World}{k b n D}(h:w.ownsMap prog k Bx b n D):∃es c,w.heap[b]?=some (.map es c):=by
 obtain⟨es,a,d,_⟩:=h;exact⟨es,a,d⟩
def Ii{w w':World}{k b n D}(h:w.ownsMap prog k Bx b n D)(d:w'.heap[b]?=w.heap[b]?):w'.ownsMap prog k Bx b n D:=by
 obtain⟨es,a,e,c⟩:=h;exact⟨es,a,d.j e,c⟩
def NS.ar{l w w' base e mb k f L g D}(h:NS l w base e mb k f L g D)(d:Bw w w'):NS l w' base e mb k f L g D:=
 ⟨(d.block e (As h.box)).j h.box,Ii h.map (d.block mb h.map.lt),h.inv,Bg h.row d,λi x b c a=>⟨(d.block b (As (h.node i x b c a).1)).j (h.node i x b c a).1,(h.node i x b c a).2⟩,λx c=>(h.aX x c).ar d,h.pair,h.bE⟩
structure Ei(gb mb:Nat) (row:Option Nat) (w w':World):Prop where
 rest:Below 0 w w'
 block:∀k,k<w.heap.size->k≠gb->k≠mb->row≠some k->w'.heap[k]?=w.heap[k]?
def Ei.ab{a mb row w w'}(h:Bw w w'):Ei a mb row w w':=⟨h.ac (yA _),λk b _ _ _=>h.block k b⟩
def Ei.own{o w w' base f mb base' g d L j D e m n v xs}(q:Ei f mb (Value.slice g L.length d).ownBlock w w')(h:w.ownsRow base' e m v n xs)(b:NS o w base f mb g d L j D)(r:238≠e)(l:194≠e):w'.ownsRow base' e m v n xs:=
 BZ h λk i=>by
  obtain⟨c,a⟩:=A8 h i
  refine q.block k (h.lt k i).2 (λe=>?_) (λe=>?_) (λe=>?_)
  .subst e
   exact CB b.box a r
  .subst e
   obtain⟨es,t,p⟩:=IK b.map
   rw[p]at a
   cases a
  obtain⟨s,O⟩:=A8 b.row e
  exact CB O a l
def Ei.box{m w w' base f mb g d L k D}{b:Nat}{c t i}(o:Ei f mb (Value.slice g L.length d).ownBlock w w')(h:w.heap[b]?=some (.cells c t i))(a:NS m w base f mb g d L k D)(p:238≠t)(l:194≠t):w'.heap[b]?=some (.cells c t i):=by
 refine(o.block b (As h) (λe=>?_) (λe=>?_) (λe=>?_)).j h
 .subst e;exact CB a.box h p
 .subst e;obtain⟨es,r,n⟩:=IK a.map;rw[n]at h;cases h
 obtain⟨q,O⟩:=A8 a.row e;exact CB O h l
def uE:(prog.info? 194).map (λi=>(i.zero,i.size,i.bytes))=some (some (.pointer none),1,8):=qf
def sR(w):(zeroValue 194).run prog w=.ok (.pointer none) w:=qf
def NS.add{A}(K:Mr A){w J N p base s mb nb C q H r L R D x o}(h:NS A w base s mb C H L R D)(hx:N0 w base x)(ay:∀y∈L,AL y.2 x.2)(W:LM x.1)(ax:¬DI x.1 (L.map Prod.fst)<(L.map Prod.fst).length)(aj:T_ w nb x L.length)(ao:base<=nb)(am:J.ownsMap prog 323 Bx mb (L.length+1) (D.put (A x.1) (.lit (.int .i64 (nb:Int)))))(z:w.grownBy J (some mb))(G:N.ownsRow base 194 1 (.slice q (L.length+1) r) (L.length+1) (Fz R++[Pn nb]))(l:(J.alloc o).grownBy N (Value.slice C L.length H).ownBlock)(av:GB p s mb (.slice q (L.length+1) r))(f:Turned N p s) :
  NS A p base s mb q r (L++[x]) (R++[nb]) (D.put (A x.1) (.lit (.int .i64 (nb:Int))))/\Ei s mb (Value.slice C L.length H).ownBlock w p:=by
 obtain⟨aA,aC,T⟩:=IK h.map;have aB:=z.size;have aw:=l.size;simp at aw
 -- a block that is none of the Ev stays
 have stay:∀k,k<w.heap.size->k≠s->k≠mb->(Value.slice C L.length H).ownBlock≠some k->p.heap[k]?=w.heap[k]?:=λk g M E h3=>by
  rw[f.block k M,l.block k qg (λe=>h3 e.ai),yV _ _ _ qd,z.block k g (λe=>E Lu)]
 have ak:s≠mb:=λe=>by have:=h.box;unfold GB at this;rw[e,T]at this;cases this
 have O:∀(k:Nat)(c:Array Value)(t:TypeId)(U:Nat × Nat),w.heap[k]?=some (.cells c t U)->t≠238->t≠194->p.heap[k]?=some (.cells c t U):=λk c t U g M E=>by
  refine(stay k (As g) (λe=>?_) (λe=>?_) (λe=>?_)).j g
  .subst e;exact CB g h.box M
  .subst e;rw[T]at g;cases g
  obtain⟨c',Y⟩:=A8 h.row e;exact CB g Y E
 have ah:∀{e:TypeId}{m:Nat}{v:Value}{n:Nat}{xs:List Value},w.ownsRow base e m v n xs->e≠238->e≠194->p.ownsRow base e m v n xs:=λho M E=>BZ ho λk g=>by
  obtain⟨c,I⟩:=A8 ho g;rw[O k _ _ _ I M E,I]
 have az:∀k,(Value.slice C L.length H).ownBlock=some k->k≠mb:=λk g e=>by
  obtain⟨c',Y⟩:=A8 h.row g;rw[e,T]at Y;cases Y
 refine⟨⟨?_,?_,?_,?_,?_,?_,?_,h.bE⟩,⟨?_,stay⟩⟩
 .simpa using av
 .have:p.ownsMap prog 323 Bx mb (L.length+1) (D.put (A x.1) (.lit (.int .i64 (nb:Int)))):=by
   refine Ii am ?_;have Z:mb<J.heap.size:=am.lt;rw[f.block mb (λe=>ak e.ai),l.block mb qg (λe=>az mb e.ai rfl),yV _ _ _ Z]
  simpa using this
 .rw[yJ];exact h.inv.add K h.map.isMap W ax
 .have h7:p.ownsRow base 194 1 (.slice q (L.length+1) r) (L.length+1) (Fz R++[Pn nb]):=BZ G λk g=>f.block k (λe=>by
   obtain⟨c,I⟩:=A8 G g;subst e;have au:N.heap[k]?=J.heap[k]?:=by
    rw[l.block k (by have:=As h.box;simp;omega) (λe=>by obtain⟨c',Y⟩:=A8 h.row e.ai;exact CB h.box Y qh),yV _ _ _ (by have:=As h.box;omega)]
   rw[au,z.block k (As h.box) (λe=>ak Lu)]at I;exact CB h.box I qh)
  simpa[Fz] using h7
 .intro i y b d B;have aq:=h.inv.len;simp at aq;by_cases hi:i<L.length
  .rw[yB hi]at d;rw[yB qd]at B;exact⟨O b _ _ _ (h.node i y b d B).1 qh qh,(h.node i y b d B).2⟩
  have ar:i=L.length:=by
   have:=(yf.1 d).1;simp at this;omega
  subst ar;simp at d;subst d;rw[yF qd,aq,W7]at B;simp at B;subst B;exact⟨O nb _ _ _ aj qh qh,ao⟩
 .intro y d;rcases yr.1 d with d|d
  .exact⟨(h.aX y d).1,ah (h.aX y d).2 qh qh⟩
  simp at d;subst d;exact⟨hx.1,ah hx.2 qh qh⟩
 .rw[yJ,Yy];refine⟨h.pair,qe,λu hu v hv=>?_⟩;obtain⟨y,d,rfl⟩:=yz.1 hu;simp at hv;subst hv;exact ay y d
 refine⟨?_,?_,?_,?_,λk g=>qd⟩
 .exact(f.os.j l.os).j z.os
 .exact(f.tape.j l.tape).j z.tape
 .exact(f.output.j l.output).j z.output
 rw[f.size];omega
end
section
open Go.Maps
attribute [local go_sem ↓] wp_at_zero wp_at_succ
def rY(kl:Al->Lit)(base gb mb:Nat)(la:Option Addr)(lc:Nat)(L:List FP)(bs:List Nat)(p:Pt)(w:World)(e:Ending)(w':World):Prop:=
 ∃la' lc' L' bs' D' b,e=.returned (.pointer (some ⟨b,0,none⟩))/\NS kl w' base gb mb la' lc' L' bs' D'/\L'.map Prod.fst=Ff (L.map Prod.fst) (C0 p)/\bs'[DI (C0 p) (L.map Prod.fst)]?=some b/\Ei gb mb (Value.slice la L.length lc).ownBlock w w'/\(∀(i n:Nat),bs[i]?=some n->bs'[i]?=some n)/\(∀g,(Value.slice la' L'.length lc').ownBlock=some g->(Value.slice la L.length lc).ownBlock=some g∨w.heap.size<=g)
def Ei.bW{a mb row u v w}(h:Bw u v)(k:Ei a mb row v w):Ei a mb row u w:=⟨(h.ac (yA _)).j k.rest,λj hj d b c=>(k.block j (yh hj h.size) d b c).j (h.block j hj)⟩
def xB{P:World->Prop}{w0 u o}(hu:Bw w0 u)(a:u.heap[w0.heap.size]?=some o)(h:∀wt,Bw w0 wt->wt.heap[w0.heap.size]?=some o->P wt):P u:=h u hu a
def XX(h:P:=by
 refine' yieldsIf_load_mid (by rfl) _ _ rfl _ _ rfl _ _ ?hS ?hu ?hd ?hj
 case hS=>(intro w ar;exact ar.2)
 case hu=>exact aC
 case hd=>rfl
 case hj=>exact ao
 ):=h
def tB(kl)(K:Mr kl)(p az aB){q}(base d mb C A L M D w)(hN:NS kl w base d mb C A L M D)(a8:CJ q w az p.aa)(ag:p.ak.size<=maxLen)(a0:CP Tm.le maxLen p.aa)(bk:p.aa.length<=1048576)(bd:p.aa.length<=aB)(aT:∀t∈p.aa,C8 t.val)(hL:L.length<=1000)(hbase:base<=w.heap.size) :
  Ca 149 #[.pointer (some ⟨d,0,none⟩),.agg #[.bool p.neg,.string p.ak,.slice az p.aa.length aB]] w (rY kl base d mb C A L M p w):=by
 obtain⟨HN,HT,aR,Z,HA⟩:=DU hN a8 a0 (zo3 ag aT) (λo=>Aj.alloc AA o:∀o,Bw w (w.alloc o));have aC:=underlying323;clear hN a8 a0 aT;go_enter func149,ntmps149;go_wp2_with fail;refine(zlh p az aB _ (HT.o.J (HA.o _)) ag aR.o bk bd).ac ?_;rintro e B ⟨⟨m,f,rfl,aL⟩,av⟩;obtain⟨N1,B1⟩:=Ak ((HN.o.ar (HA.o _)).ar av) ((HA.o _).j (av.ac (HA.o _).size));have a2:=av.size;simp at a2;have aA:=Aa (DT aL (show w.heap.size<=_ by simp));obtain⟨X,hX⟩:∃X,X=C0 p:=⟨_,rfl⟩
 have aJ:X.ah.length<=6:=by rw[hX];exact SJ p
 rw[<-hX]at aA Z⊢;have au:=Aa hX;clear hX aL av HA HT aR;go_upto_region 2 with fail;refine Bt ?_;intro w2 aq ax;obtain⟨g0,g1,g2⟩:=Ao ax;obtain⟨N2,B2,aD⟩:=AQ (N1.o.ar aq) (B1.o.aj aq) (Bg aA.o aq);have bo:=aq.size;have bu:B.heap.size<w2.heap.size:=As ax;clear aq ax N1 B1 aA;go_wp2_with fail;refine(uZ X m f w2 (EC.owns aD.o) aJ).an λs Y=>?_;have aP:(Cm X).length=38:=by unfold Cm;rw[Qc,PE _ aJ]
 have HLK:=Aa aP;have aN:=zab Y g0;have aV:=zab Y g1;have aK:=zab Y g2;obtain⟨N3,B3,aO⟩:=AQ (N2.o.ar Y) (B2.o.aj Y) (Bg aD.o Y);have bw:=Y.size;clear aP g0 g1 g2 Y N2 B2 aD;go_upto_region 3 with(refine EH qi 323 (.tmp 6) (.tmp 12) qi s.heap.size (Cm X) qi qi _ 323 (Eu _ _ _ rfl) (by rw[HLK.o];rfl) (by rw[HLK.o];exact Oh) (W_ _ _ _) ?_;intro c aH aX);have O:Bw s c:=Af.j (aX.o.J AA);have G0:=zab O aN;have G1:=zab O aV;have G2:=zab O aK;obtain⟨N,B4,aQ⟩:=AQ (N3.o.ar O) (B3.o.aj O) (Bg aO.o O);have bv:=O.size;have W:=Aa (L9 aH.o);have bn:s.heap.size<c.heap.size:=As aH.o;have ao:(prog.info? 323).map (·.size)=some (Cm X).length:=by rw[HLK.o];exact Oh
 obtain⟨⟨m0,m1⟩,_,aG⟩:=N.o.box.facts;obtain⟨v,ps,am,hv⟩:=(N.o.map.drew).look_ok Ri (t:=235) underlying235 (sR _) (show Bx (.pointer none)=some (zP,[]) from rfl) (K X Z.o);have bm:(L.map Prod.fst).length=L.length:=qe;clear aN aV aK O N3 B3 aO aX aH;by_cases R:DI X (L.map Prod.fst)<(L.map Prod.fst).length
 .obtain⟨b,hb⟩:∃b,M[DI X (L.map Prod.fst)]?=some b:=⟨M[DI X (L.map Prod.fst)]'(by rw[N.o.inv.len];exact R),qe⟩
  obtain⟨hy1,hy2⟩:=N.o.inv.cC X b Z.o hb;rw[hy1]at am;rw[hy2]at hv;have bl:=ik hv;subst bl;obtain⟨HB,ak⟩:=Ak hb R;clear hv hy1 hy2 hb R;refine wp_region_noPanic ?_;refine wp_region_held_drew (S:=(λw'=>w'.cell? ⟨d,0,none⟩=some (.map (some mb))/\w'.rangeAt s.heap.size 0 (Cm X))) qf ?_ (λhHeld=>?_)
  ·(try dsimp only);exact⟨m0,W.o⟩
  refine sr 0 4 ?_;refine wpAnyH_take (i:=4) (oi:=?oi1) (v:=?v1) ?hi1 qf qf qf (λ_ _ _ h=>h) ?yl1 hHeld ?rest1
  case hi1=>(simp only[yj,yw,yC];rfl)
  case yl1=>
   exact XX
  (try simp only[Act.put,yq,yI,yG]);refine r1 5 λK H=>?_;go_simp;refine H.o _ _ (by(try dsimp only);exact⟨m0,W.o⟩) λI=>?_;replace hHeld:=I;clear H K I;(try simp only[Act.put,yq,yI,yG]);refine sr 6 11 ?_;refine wpAnyH_done qf ?_ _;refine Yf ?_;go_wp2_with fail
  go_ret;exact⟨C,A,L,M,D,b,rfl,N.o.ar Aj.drew,by rw[<-au.o,ig ak.o],by rw[<-au.o];exact HB.o,Ei.ab (B4.o.j Aj.drew),λ_ _ h=>h,λ_ h=>.inl h⟩
 have aW:=N.o.inv.no X Z.o R;rw[aW]at am;have ak:=Aa R;clear hv aW R;refine wp_region_noPanic ?_;refine wp_region_held_drew (S:=(λw'=>w'.cell? ⟨d,0,none⟩=some (.map (some mb))/\w'.rangeAt s.heap.size 0 (Cm X))) qf ?_ (λhHeld=>?_)
 ·(try dsimp only);exact⟨m0,W.o⟩
 refine sr 0 4 ?_;refine wpAnyH_take (i:=4) (oi:=?oi3) (v:=?v3) ?hi3 qf qf qf (λ_ _ _ h=>h) ?yl3 hHeld ?rest3
 case hi3=>(simp only[yj,yw,yC];rfl)
 case yl3=>
  exact XX
 (try simp only[Act.put,yq,yI,yG]);refine r1 5 λK H=>?_;go_simp;refine H.o _ _ (by(try dsimp only);exact⟨m0,W.o⟩) λI=>?_;replace hHeld:=I;clear H K I;(try simp only[Act.put,yq,yI,yG]);refine sr 6 11 ?_;refine wpAnyH_done qf ?_ _;refine Yf ?_;go_upto_region 5 with fail
 have ah:=Aa (λo=>Aj.alloc AA o:∀o,Bw c (c.alloc o));clear am;have D0:c.drew.drew.cell? ⟨B.heap.size,0,none⟩=some (.string X.ak):=G0;have E0:∀o,(c.alloc o).drew.drew.cell? ⟨B.heap.size,0,none⟩=some (.string X.ak):=λo=>zab (ah.o o).drew.drew G0;have D1:c.drew.drew.cell? ⟨B.heap.size,1,none⟩=some (.int .i64 X.arity):=G1;have E1:∀o,(c.alloc o).drew.drew.cell? ⟨B.heap.size,1,none⟩=some (.int .i64 X.arity):=λo=>zab (ah.o o).drew.drew G1;have D2:c.drew.drew.cell? ⟨B.heap.size,2,none⟩=some (.slice m X.ah.length f):=G2;have E2:∀o,(c.alloc o).drew.drew.cell? ⟨B.heap.size,2,none⟩=some (.slice m X.ah.length f):=λo=>zab (ah.o o).drew.drew G2;have D3:c.drew.drew.cell? ⟨d,1,none⟩=some (.slice C L.length A):=m1;have E3:∀o,(c.alloc o).drew.drew.cell? ⟨d,1,none⟩=some (.slice C L.length A):=λo=>zab (ah.o o).drew.drew m1
 go_region_held3 (λw'=>w'.cell? ⟨B.heap.size,0,none⟩=some (.string X.ak)/\w'.cell? ⟨B.heap.size,1,none⟩=some (.int .i64 X.arity)/\w'.cell? ⟨B.heap.size,2,none⟩=some (.slice m X.ah.length f)/\w'.cell? ⟨d,1,none⟩=some (.slice C L.length A)) (first|with_reducible exact⟨D0,D1,D2,D3⟩|with_reducible exact⟨E0 _,E1 _,E2 _,E3 _⟩) (fail)
 go_upto_region 6 with fail
 refine xB (w0:=c) (o:=.cells #[.string X.ak,.int .i64 X.arity,.slice m X.ah.length f,.int .i64 (L.length:Int),.slice none 0 0] 247) ((ah.o _).drew.drew) (heap_alloc_new _ _) ?_;intro U T aE;obtain⟨r,bg,B5,aM,aY⟩:=DU (N.o.ar T) (show T_ U c.heap.size (X,.slice m X.ah.length f) L.length from aE) (B4.o.aj T) (Bg aQ.o T) (show U.rangeAt s.heap.size 0 (Cm X) fromλj u hu=>zab T (W.o j u hu));have bq:=T.size;have bp:c.heap.size<U.heap.size:=As aE;clear D0 D1 D2 D3 E0 E1 E2 E3;clear T aE G0 G1 G2 m0 m1 aG B4 aQ W ah;obtain⟨⟨m0,m1⟩,_,aG⟩:=r.o.box.facts;obtain⟨br,bt,aF⟩:=IK r.o.map;have bi:d≠mb:=λe=>by have:=r.o.box;unfold GB at this;rw[e,aF]at this;cases this
 have bj:s.heap.size≠mb:=λe=>by have:=N.o.map.lt;have h2:=HN.o.map.lt;omega
 obtain⟨G,ay,a5,af⟩:=(r.o.map.drew).update Ri (t:=235) underlying235 qm (K X Z.o) (fW c.heap.size);obtain⟨M6,aw⟩:=Ak a5 (show U.grownBy G (some mb) from⟨af.os,af.tape,af.output,af.size,af.block⟩);have bz:U.heap.size<=G.heap.size:=af.size;obtain⟨a9,bf,R6⟩:=AQ (show GB G d mb (.slice C L.length A) from(aw.o.block d aG (λe=>bi Lu)).j r.o.box) (show G.rangeAt s.heap.size 0 (Cm X) fromλj u hu=>(y8 (w:=U) (aw.o.block s.heap.size qd (λe=>bj Lu))).j (aY.o j u hu)) (show G.ownsRow base 194 1 (.slice C L.length A) L.length (Fz M) from BZ r.o.row λk hk=>aw.o.block k (r.o.row.lt k hk).2 (λe=>by injection e with e;obtain⟨c',aZ⟩:=A8 r.o.row hk;rw[e,aF]at aZ;cases aZ));obtain⟨⟨k0,k1⟩,_,a6⟩:=a9.o.facts;clear a5 af aF;refine wp_region_noPanic ?_;refine wp_region_held_drew (S:=(λw'=>w'.cell? ⟨d,0,none⟩=some (.map (some mb))/\w'.rangeAt s.heap.size 0 (Cm X))) qf ?_ (λhHeld=>?_)
 ·(try dsimp only);exact⟨m0,aY.o⟩
 refine sr 0 4 ?_;refine wpAnyH_take (i:=4) (oi:=?oi5) (v:=?v5) ?hi5 qf qf qf (λ_ _ _ h=>h) ?yl5 hHeld ?rest5
 case hi5=>(simp only[yj,yw,yC];rfl)
 case yl5=>
  exact XX
 (try simp only[Act.put,yq,yI,yG]);refine sr 5 6 ?_;refine r1 6 λK H=>?_;go_simp;refine H.o _ _ (by(try dsimp only);exact⟨k0,bf.o⟩) λI=>?_;replace hHeld:=I;clear H K I;(try simp only[Act.put,yq,yI,yG]);refine wpAnyH_done qf ?_ _;refine Yf ?_;have HW:=Aa (λo=>Aj.alloc AA o:∀o,Bw G (G.alloc o));obtain⟨bh,TY⟩:=Ak (λo=>show GB (G.alloc o) d mb (.slice C L.length A) from((HW.o o).block d a6).j a9.o) (λo k hk=>A8 (Bg R6.o (HW.o o)) (k:=k) hk);clear m0 m1 ay;go_upto_region 8 with(first|(at_builtin;refine EU qi (.tmp 42) (.tmp 44) 236 qi base 194 _ 1 8 underlying236 uE qi qd _ L.length _ qi (Bg R6.o (HW.o _)) (some ⟨_,0,none⟩) 1 1 qi [.pointer (some ⟨c.heap.size,0,none⟩)] qi (λe=>qp) (Et _ _ _ _ qe) Zt qm qd qg ?_;intro a7 c7 w7 ap ae al;have a4:=Aa (show GB w7 d mb (.slice C L.length A) from Gq (bh.o _) ae.o (TY.o _) qh);obtain⟨⟨l0,l1⟩,z,_⟩:=a4.o.facts;have z1:=z 1;clear z)|fail);refine uf a4.o ?_;intro w8 aU ad;have hR:=NS.add K (x:=(X,.slice m X.ah.length f)) r.o ⟨⟨m,f,rfl⟩,DT aM.o hbase⟩ (λy hy g E bc=>by have h1:=((HN.o.aX y hy).2.lt g E).2;have h2:=(aM.o.lt g bc).1;omega) Z.o ak.o bg.o qd M6.o aw.o ap.o ae.o aU ad;have HR:=Aa hR;have aS:M.length=L.length:=by have:=r.o.inv.len;simpa using this
 have aI:=Aa aS;clear hR aS aU ad;go_wp2_with fail;go_ret;refine⟨a7,c7,L++[(X,.slice m X.ah.length f)],M++[c.heap.size],_,c.heap.size,rfl,HR.o.1,?_,?_,Ei.bW B5.o HR.o.2,λi n h=>by rw[yB (yf.1 h).1];exact h,?_⟩
 .rw[<-au.o,iG ak.o];simp
 .rw[<-au.o,j9 ak.o,bm,yF (W0 aI.o),aI.o,W7];rfl
 intro g E;rw[yR]at E;rcases al.o with h|h
 .rw[show L.length+[(X,Value.slice m X.ah.length f)].length=L.length+1 from rfl,h]at E;exact .inl E
 rw[show L.length+[(X,Value.slice m X.ah.length f)].length=L.length+1 from rfl,h]at E;injection E with E;have h5:=B5.o.size;simp at E;exact .inr qd
def O5(t:TypeId):Prop:=t=238∨t=194∨t=247∨t=320
def NS.aD{u w w' base o mb p r L s D}(h:NS u w base o mb p r L s D)(y:∀k,k<w.heap.size->(∀c t a,w.heap[k]?=some (Obj.cells c t a)->O5 t)->w'.heap[k]?=w.heap[k]?):NS u w' base o mb p r L s D:=by
 have key:∀(k:Nat)(c:Array Value)(t:TypeId)(a:Nat × Nat),w.heap[k]?=some (.cells c t a)->O5 t->w'.heap[k]?=some (.cells c t a):=λk c t a g C=>(y k (As g) (λI G E O=>by rw[g]at O;injection O with O;injection O with _ A;rw[<-A];exact C)).j g;have Y:∀{e:TypeId}{m:Nat}{v:Value}{n:Nat}{xs:List Value},w.ownsRow base e m v n xs->O5 e->w'.ownsRow base e m v n xs:=λq z=>BZ q λk g=>by
  obtain⟨c,f⟩:=A8 q g;rw[key k _ _ _ f z,f]
 refine⟨key _ _ _ _ h.box (.inl rfl),?_,h.inv,Y h.row (.inr (.inl rfl)),λi x b d l=>⟨key _ _ _ _ (h.node i x b d l).1 (.inr (.inr (.inl rfl))),(h.node i x b d l).2⟩,λx d=>⟨(h.aX x d).1,Y (h.aX x d).2 (.inr (.inr (.inr rfl)))⟩,h.pair,h.bE⟩;obtain⟨es,H,B⟩:=IK h.map;exact Ii h.map (y mb h.map.lt (λc t a f=>by rw[B]at f;cases f))
def NS.grown{i w w' base f mb g b L d D t row}(h:NS i w base f mb g b L d D)(j:w.grownBy w' row)(n:∀k,row=some k->∃c,w.heap[k]?=some (.cells c t (0,0)))(a:¬O5 t):NS i w' base f mb g b L d D:=
 h.aD λk m O=>j.block k m (λe=>by
  obtain⟨c,l⟩:=n k e.ai
  exact a (O _ _ _ l))
def Ei.J{a mb B row w w'}(h:Ei a mb row w w')(O:B<=w.heap.size)(f:B<=a)(c:B<=mb)(b:∀k,row=some k->B<=k):Below B w w':=
 ⟨h.rest.os,h.rest.tape,h.rest.output,h.rest.size,λk d=>h.block k qd qd qd (λe=>by have:=b k e;omega)⟩
def ly{P}(t w):(Instr.makeMap t none).run P w=.ok (.map (some w.heap.size)) (w.alloc (.map #[] 0)):=by
 simp[Instr.makeMap]
def zl8(a w):Ca 89 #[] w λe w'=>e=.returned (Pn (w.heap.size+1))/\NS a w' w.heap.size (w.heap.size+1) w.heap.size none 0 [] [] (.map [])/\Bw w w':=by
 have O:=ly (P:=prog) 235;go_enter func89,ntmps89;go_wp2_with fail;go_ret;refine⟨rfl,⟨?_,?_,NZ.start a,y9 _ _ _ _,λi x b hx=>qN,λx hx=>qN,List.Pairwise.nil,qd⟩,Af.alloc qe _⟩
 .exact Eu _ _ _ qe
 exact Ii (WB w prog 323 Bx) (yV _ _ _ qe)
def E8(w:World)(b:Nat)(x:FP)(i:Nat)(v:Value):Prop:=w.heap[b]?=some (.cells #[.string x.1.ak,.int .i64 x.1.arity,x.2,.int .i64 (i:Int),v] 247 (0,0))
def E8.facts{w b x i v}(h:E8 w b x i v):(At w b 0 (.string x.1.ak)/\At w b 1 (I6 x.1.arity)/\At w b 2 x.2/\At w b 4 v)/\w.frozen? ⟨b,4,none⟩=false/\b<w.heap.size:=by
 unfold E8 at h;refine⟨⟨?_,?_,?_,?_⟩,?_,As h⟩<;>simp[World.cell?,World.frozen?,h]
def E8.dH{w b x i v}(h:E8 w b x i v)(y):E8 (w.setCell ⟨b,4,none⟩ y) b x i y:=by
 have:=Fq (i:=4) h y;simpa[E8] using this
def ks{P:World->Prop}{w b x i v y}(O:E8 w b x i v)(h:∀wt,E8 wt b x i y->Turned w wt b->P wt):P (w.setCell ⟨b,4,none⟩ y):=h _ (O.dH y) (Turned.setCells [y] 4 w b)
def E8.num{w b x y i j u v}(h:E8 w b x i u)(k:E8 w b y j v):i=j:=by
 unfold E8 at h k;rw[h]at k;simp at k;omega
def CD(x:Al)(Q:List (Value × F)):List (Value × F):=Q.filter (λy=>Ae x y.2)
def lx{x Q p f}(h:Ae x f=true):CD x (Q++[(p,f)])=CD x Q++[(p,f)]:=by
 unfold CD;rw[yQ];simp[h]
def zm3{x Q p f}(h:Ae x f=false):CD x (Q++[(p,f)])=CD x Q:=by
 unfold CD;rw[yQ];simp[h]
structure DF(base:Nat) (w w':World):Prop where
 rest:Below base w w'
 kept:∀(k:Nat)(c:Array Value)(t:TypeId)(fr:Nat × Nat),w.heap[k]?=some (.cells c t fr)->t≠247->t≠106->w'.heap[k]?=some (.cells c t fr)
 maps:∀(k:Nat)(o:Obj),w.heap[k]?=some o->(∀c t fr,o≠.cells c t fr)->w'.heap[k]?=some o
def DF.refl(base w):DF base w w:=⟨Aj,λ_ _ _ _ h _ _=>h,λ_ _ h _=>h⟩
def DF.j{base u v w}(h:DF base u v)(k:DF base v w):DF base u w:=⟨h.rest.j k.rest,λj c t b hj d a=>k.kept j c t b (h.kept j c t b hj d a) d a,λj o hj e=>k.maps j o (h.maps j o hj e) e⟩
def DF.ab{base w w'}(h:Bw w w')(b:base<=w.heap.size):DF base w w':=⟨h.ac b,λk _ _ _ a _ _=>(h.block k (As a)).j a,λk _ a _=>(h.block k (ym.1 a).1).j a⟩
def DF.own{base B w w' e m v n xs}(h:DF base w w')(b:w.ownsRow B e m v n xs)(g:e≠247)(d:e≠106):w'.ownsRow B e m v n xs:=
 BZ b λk f=>by
  obtain⟨c,a⟩:=A8 b f
  rw[h.kept k _ _ _ a g d,a]
structure NF(w:World) (base gb mb:Nat) (la:Option Addr) (lc:Nat) (L:List FP) (bs:List Nat) (V:List Value) (QQ:Nat->List (Value × F)):Prop where
 box:GB w gb mb (.slice la L.length lc)
 row:w.ownsRow base 194 1 (.slice la L.length lc) L.length (Fz bs)
 bk:bs.length=L.length
 ba:V.length=L.length
 node:∀(i:Nat)(x:FP)(b:Nat)(v:Value),L[i]?=some x->bs[i]?=some b->V[i]?=some v->E8 w b x i v/\base<=b/\(∃fa fc,v=.slice fa (CD x.1 (QQ i)).length fc)/\w.ownsRow base 106 1 v (CD x.1 (QQ i)).length ((CD x.1 (QQ i)).map Prod.fst)
 aX:∀x∈L,N0 w base x
 apart:∀(i j:Nat)(u v:Value),V[i]?=some u->V[j]?=some v->i≠j->AL u v
def NF.ar{w w' base c mb k f L g V QQ}(h:NF w base c mb k f L g V QQ)(a:Bw w w'):NF w' base c mb k f L g V QQ:=
 ⟨(a.block c (As h.box)).j h.box,Bg h.row a,h.bk,h.ba,λi x b v d e hv=>by
  obtain⟨l,n,m,o⟩:=h.node i x b v d e hv
  exact⟨(a.block b (As l)).j l,n,m,Bg o a⟩,λx d=>(h.aX x d).ar a,h.apart⟩
def NF.same{w base e mb f c L d V QQ O}(h:NF w base e mb f c L d V QQ)(j:∀i x,L[i]?=some x->CD x.1 (QQ i)=CD x.1 (O i)):NF w base e mb f c L d V O:=
 ⟨h.box,h.row,h.bk,h.ba,λi x b v g a hv=>by
  rw[<-j i x g]
  exact h.node i x b v g a hv,h.aX,h.apart⟩
def NF.dI{n w base d mb f a L c D}(h:NS n w base d mb f a L c D):NF w base d mb f a L c (List.replicate L.length (.slice none 0 0)) (λ_=>[]):=by
 refine⟨h.box,h.row,by have:=h.inv.len;simpa using this,qe,λi x b v k l hv=>?_,h.aX,λi j u v hu hv _ g m=>?_⟩
 .have e:=WO (yd hv);subst e;exact⟨(h.node i x b k l).1,(h.node i x b k l).2,⟨none,0,rfl⟩,y9 _ _ _ _⟩
 have e:=WO (yd hu);subst e;cases m
def pM(h:P:=by
 obtain⟨n1,n2,n3,n4⟩:=h.node m x b v hx hb hv;have aw:m<V.length:=(yf.1 hv).1;have ay:=hg7.size
 first
  | (have _:=tP
     simp at ay;have stay:∀k,k<w.heap.size->k≠b->v.ownBlock≠some k->w8.heap[k]?=w.heap[k]?:=λk hk h1 h2=>by
       rw[ht8.block k h1,hg7.block k (by simp;omega) (λe=>h2 e.ai),yV _ _ _ hk])
  |(have stay:∀k,k<w.heap.size->k≠b->v.ownBlock≠some k->w8.heap[k]?=w.heap[k]?:=λk hk h1 h2=>by
       rw[ht8.block k h1,hg7.block k hk (λe=>h2 e.ai)])
 have ah:∀(k:Nat)(c:Array Value)(t:TypeId)(fr:Nat × Nat),w.heap[k]?=some (.cells c t fr)->t≠247->t≠106->w8.heap[k]?=some (.cells c t fr):=λk c t fr hk h1 h2=>by
  refine(stay k (As hk) (λe=>?_) (λe=>?_)).j hk
  .subst e;exact CB hk n1 h1
  obtain⟨c',O⟩:=A8 n4 e;exact CB hk O h2
 have ak:∀{e:TypeId}{m:Nat}{v:Value}{n:Nat}{xs:List Value},w.ownsRow base e m v n xs->e≠247->e≠106->w8.ownsRow base e m v n xs:=λho h1 h2=>BZ ho λk hk=>by
  obtain⟨c,hc⟩:=A8 ho hk;rw[ah k _ _ _ hc h1 h2,hc]
 have ax:b<w.heap.size:=n1.facts.2.2;have am:∀(i:Nat)(u:Value),V[i]?=some u->i≠m->∃(x':FP)(b':Nat),L[i]?=some x'/\bs[i]?=some b':=λi u hu _=>by
  have hi:i<V.length:=(yf.1 hu).1;have e1:=h.ba;have e2:=h.bk;exact⟨L[i]'(by omega),bs[i]'(by omega),by simp,by simp⟩
 first
  | (have _:=tP
     have aj:∀(i:Nat)(u:Value),V[i]?=some u->i≠m->∀g,u.ownBlock=some g->(Value.slice fa ((CD x.1 (QQ m)).length+1) fc).ownBlock≠some g:=λi u hu hi g hg Y=>by
       obtain⟨x',b',af,hb'⟩:=am i u hu hi;have hlt:=((h.node i x' b' u af hb' hu).2.2.2.lt g hg).2;rcases hl7 with hl|hl
       · rw[hl]at Y
         exact h.apart i m u v hu hv hi g hg Y
       · rw[hl]at Y
         injection Y with Y;simp at Y;omega)
  |(have aj:∀(i:Nat)(u:Value),V[i]?=some u->i≠m->∀g,u.ownBlock=some g->(Value.slice fa (CD x.1 Q').length fc).ownBlock≠some g:=λi u hu hi g hg Y=>by
       obtain⟨x',b',af,hb'⟩:=am i u hu hi;have hlt:=((h.node i x' b' u af hb' hu).2.2.2.lt g hg).2;exact h.apart i m u v hu hv hi g hg (hl7 g Y))
 have ao:∀(k:Nat)(o:Obj),w.heap[k]?=some o->(∀c t fr,o≠.cells c t fr)->w8.heap[k]?=some o:=λk o hk ho=>by
  refine(stay k (ym.1 hk).1 (λe=>?_) (λe=>?_)).j hk
  .subst e;have au:=n1;unfold E8 at au;rw[hk]at au;cases au;exact ho _ _ _ rfl
  obtain⟨c',O⟩:=A8 n4 e;rw[hk]at O;cases O;exact ho _ _ _ rfl
 refine⟨⟨ah gb _ _ _ h.box (by decide) (by decide),ak h.row (by decide) (by decide),h.bk,by simp[h.ba],λi x' b' u af hb' hu=>?_,λy hy=>⟨(h.aX y hy).1,ak (h.aX y hy).2 (by decide) (by decide)⟩,λi j u u' hu ai av=>?_⟩,⟨?_,ah,ao⟩⟩
 .by_cases hi:i=m
  .subst hi;rw[hx]at af;rw[hb]at hb';cases af;cases hb';rw[Yl aw]at hu;cases hu;refine⟨hN8,n2,⟨fa,fc,?_⟩,?_⟩
   . first
     | (have _:=tP
        simp[lx hp])
     |(simp)
   first
    | (have _:=tP
       have ar:w8.ownsRow base 106 1 (.slice fa ((CD x.1 (QQ i)).length+1) fc) ((CD x.1 (QQ i)).length+1) ((CD x.1 (QQ i)).map Prod.fst++[p]):=BZ ho7 λk hk=>ht8.block k (λe=>by
         obtain⟨c,hc⟩:=A8 ho7 hk;subst e;have aq:w7.heap[k]?=w.heap[k]?:=by
           rw[hg7.block k (by simp;omega) (λe=>by obtain⟨c',O⟩:=A8 n4 e.ai;exact CB n1 O (by decide)),yV _ _ _ ax]
         rw[aq]at hc;exact CB n1 hc (by decide))
       simpa[lx hp] using ar)
    | (have ar:w8.ownsRow base 106 1 (.slice fa (CD x.1 Q').length fc) (CD x.1 Q').length ((CD x.1 Q').map Prod.fst):=BZ ho7 λk hk=>ht8.block k (λe=>by
         obtain⟨c,hc⟩:=A8 ho7 hk;subst e;have aq:w7.heap[k]?=w.heap[k]?:=by
           rw[hg7.block k ax (λe=>by obtain⟨c',O⟩:=A8 n4 e.ai;exact CB n1 O (by decide))]
         rw[aq]at hc;exact CB n1 hc (by decide))
       simpa using ar)
  rw[YS (λe=>hi e.ai)]at hu;obtain⟨k1,k2,k3,k4⟩:=h.node i x' b' u af hb' hu;simp only[if_neg hi];refine⟨(stay b' (As k1) (λe=>?_) (λe=>?_)).j k1,k2,k3,?_⟩
  .subst e;exact hi (k1.num n1)
  .obtain⟨c',O⟩:=A8 n4 e;exact CB k1 O (by decide)
  refine BZ k4 λk hk=>stay k (k4.lt k hk).2 (λe=>?_) (λe=>h.apart i m u v hu hv hi k hk e);subst e;obtain⟨c',O⟩:=A8 k4 hk;exact CB n1 O (by decide)
 .by_cases hi:i=m
  .subst hi;rw[Yl aw]at hu;rw[YS av]at ai;cases hu;intro g hg Y;exact aj j u' ai (λe=>av e.ai) g Y hg
  rw[YS (λe=>hi e.ai)]at hu;by_cases hj:j=m
  .subst hj;rw[Yl aw]at ai;cases ai;exactλg hg=>aj i u hu hi g hg
  rw[YS (λe=>hj e.ai)]at ai;exact h.apart i j u u' hu ai av
 . first
   | (have _:=tP
      refine(((Yw base w).alloc hbase _).grown hg7 (by simp;omega) (λk hk=>(n4.lt k hk).1)).j (ht8.J n2))
   |(refine((Yw base w).grown hg7 hbase (λk hk=>(n4.lt k hk).1)).j (ht8.J n2))
 ):=h
def NF.push{w w7 w8 base gb mb a d L bs V QQ m b x v p f o fa fc}(h:NF w base gb mb a d L bs V QQ)(hx:L[m]?=some x)(hb:bs[m]?=some b)(hv:V[m]?=some v)(hp:Ae x.1 f=true)(hbase:base<=w.heap.size)(ho7:w7.ownsRow base 106 1 (.slice fa ((CD x.1 (QQ m)).length+1) fc) ((CD x.1 (QQ m)).length+1) ((CD x.1 (QQ m)).map Prod.fst++[p]))(hg7:(w.alloc o).grownBy w7 v.ownBlock)(hl7:(Value.slice fa ((CD x.1 (QQ m)).length+1) fc).ownBlock=v.ownBlock∨(Value.slice fa ((CD x.1 (QQ m)).length+1) fc).ownBlock=some (w.alloc o).heap.size)(hN8:E8 w8 b x m (.slice fa ((CD x.1 (QQ m)).length+1) fc))(ht8:Turned w7 w8 b) :
  NF w8 base gb mb a d L bs (V.set m (.slice fa ((CD x.1 (QQ m)).length+1) fc)) (λi=>if i=m then QQ m++[(p,f)] else QQ i)/\DF base w w8:=by
 have tP:=trivial;exact pM
def rQ:(prog.info? 106).map (λi=>(i.zero,i.size,i.bytes))=some (some (.pointer none),1,8):=qf
def sT{w p f}(h:Ee w p f):p.oneCell'=true:=by
 obtain⟨b,o,rfl,_⟩:=h;rfl
def E8.nd{w b base x i v}(h:E8 w b x i v)(Y:N0 w base x):∃a c,CO w b x.1 a c:=by
 obtain⟨⟨a,c,e⟩,f⟩:=Y;obtain⟨⟨O,g,d,_⟩,_⟩:=h.facts;rw[e]at d f;exact⟨a,c,O,g,d,EC.owns f⟩
end
end Go.Proofs.YtikojfajahnhgaaGreat
