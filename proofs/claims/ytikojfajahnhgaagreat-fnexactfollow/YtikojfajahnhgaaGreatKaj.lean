import Derived.Test.YtikojfajahnhgaaGreatKai
set_option linter.all false
set_option maxHeartbeats 1600000
namespace Go.Proofs.YtikojfajahnhgaaGreat
attribute [local simp] At I6 Pn mzI
attribute [local go_sem] At I6 Pn
open Go.RowKit Go.Proofs.Tryz
attribute [local go_sem ↓] wp_at_zero wp_at_succ
def BH(t:Tm):Int:=if t.kind==3 then t.op else 1
def Jh(name:ByteArray)(t:Tm):Bool:=t.kind==2&&(t.var.toList==name.toList)
def Gz(name:ByteArray):List Tm->Nat->Option Nat
 |[],_=>none
 |t::r,k=>if Jh name t then some k else Gz name r (k+1)
def Ai(ts:List Tm)(i:Nat)(name:ByteArray):Option Nat:=Gz name (ts.take i) 0
def QX:Option Nat->Int
 |none=>-1
 |some k=>(k:Int)
def Jm:V:=(0,0,⟨#[]⟩)
def EF(ts:List Tm)(i:Nat)(t:Tm):Option Tt:=
 if t.kind==0 then none
 else if t.var.toList.isEmpty then some ⟨(i:Int),BH t, -1,t.val⟩
 else match Ai ts i t.var with
  |none=>none
  |some k=>some ⟨(i:Int),BH t,(k:Int),Jm⟩
def BN(ts:List Tm):Nat->List Tt
 |0=>[]
 |i+1=>BN ts i++(match ts[i]? with|none=>[]|some t=>(EF ts i t).toList)
def C0(p:Pt):Al:=if Dc p then⟨p.ak,(p.aa.length:Int),BN p.aa p.aa.length⟩ else⟨⟨#[]⟩,0,[]⟩
def M_(name t r k):Gz name (t::r) k=if Jh name t then some k else Gz name r (k+1):=rfl
def lf(t w) :
  Ca 208 #[.agg #[I6 t.kind,I6 t.op,.string t.var,I6 t.val.kind,I6 t.val.num,.string t.val.av]] w λe w'=>e=.returned (I6 (BH t))/\Bw w w':=by
 by_cases a:t.kind=3
 .rw[a];go_enter func208,ntmps208;go_wp2;go_ret;exact⟨by simp[BH,a],Af⟩
 go_enter func208,ntmps208;go_wp2;go_ret;exact⟨by simp[BH,a],Af⟩
def nl{P:Prop}(h:P:=by
 go_roundw
 case rel=>exact⟨k+1,by omega,by go_num,HX.o,af _,Fo (hb.alloc hb.size _)⟩
 case measure=>(simp;omega)
 ):P:=h
def j5(p:Pt)(c a){q}(i:Nat)(Y w)(O:CJ q w c p.aa)(g:p.aa[i]?=some Y)(hl:p.aa.length<=1048576)(W:p.aa.length<=a) :
  Ca 207 #[.agg #[.bool p.neg,.string p.ak,.slice c p.aa.length a],I6 (i:Int)] w λe w'=>e=.returned (I6 (QX (Ai p.aa i Y.var)))/\Bw w w':=by
 have au:i<p.aa.length:=(yf.1 g).1;have l:(p.aa.take i).length=i:=by simp;omega
 have Z:(0:Int)<=(i:Int):=qd;have R:(i:Int)<=(a:Int):=qd;have y2:(i:Int)<(p.aa.length:Int):=qd;obtain⟨s,oi,I,_,A,y,m,H,B,x⟩:=O.get g;subst I;have u:=Aa m;clear A y m H B x;go_enter func207,ntmps207;go_wp2
 go_loopw [12] (λv wr=>∃(k:Nat),k<=i/\v=I6 k/\Ai p.aa i Y.var=Gz Y.var ((p.aa.take i).drop k) k/\At wr w.heap.size 2 (.slice (some ⟨s,oi,none⟩) p.aa.length a)/\Bw w wr) (mz i)
 case atStart=>exact⟨0,qd,rfl,rfl,qk,Af⟩
 case round=>
  obtain⟨k,T,rfl,n,G,hb⟩:=hrel;have HG:=Aa n;clear n;by_cases r:k<i
  .obtain⟨t,f⟩:∃t,p.aa[k]?=some t:=⟨p.aa[k]'(by omega),qe⟩
   have C:(p.aa.take i)[k]?=some t:=by rw[YU,if_pos r,f]
   have d:Hid ((p.aa.take i).drop k=t::(p.aa.take i).drop (k+1)):=Ck C;obtain⟨b,o,z,L,E,U,c2,M,c4,N⟩:=(O.J hb).get f;cases z;have z0:(0:Int)<=(k:Int):=qd;have D:(k:Int)<(i:Int):=qd;have af:=λo=>zab (Ez o) G;have aq:=λo=>zab (Ez o) (zab hb u.o);by_cases k2:t.kind=2
   .rw[k2]at E;have K:((2:Int)==2)=true:=rfl;cases j:(t.var.toList==Y.var.toList)
    all_goals
     go_wp2
     go_quiet (fail)
     go_wp2
    .have HX:Hid (Ai p.aa i Y.var=Gz Y.var ((p.aa.take i).drop (k+1)) (k+1)):=show Ai p.aa i Y.var=_ from by rw[HG.o,d.o,M_];simp[Jh,j]
     exact nl
    have HX:Hid (Ai p.aa i Y.var=some k):=show Ai p.aa i Y.var=_ from by rw[HG.o,d.o,M_];simp[Jh,k2,j]
    go_ret;exact⟨E_ Ny,Fo (hb.alloc hb.size _)⟩
   have HX:Hid (Ai p.aa i Y.var=Gz Y.var ((p.aa.take i).drop (k+1)) (k+1)):=show Ai p.aa i Y.var=_ from by rw[HG.o,d.o,M_];simp[Jh,k2]
   have K:(t.kind==2)=false:=QC;go_wp2
   go_quiet (fail)
   go_wp2;exact nl
  have D:¬(k:Int)<(i:Int):=qd;exact mw
def NI(o:Option V):Value:=match o with
 |some v=>.tuple #[.agg #[.int .i64 v.kind,.int .i64 v.num,.string v.av],.bool true]
 |none=>.tuple #[.agg #[.int .i64 0,.int .i64 0,.string ⟨#[]⟩],.bool false]
def O_(w:World)(b:Nat)(t:TypeId)(x0 x1 x2:Value):Prop:=w.heap[b]?=some (.cells #[x0,x1,x2] t (0,0))
def O_.facts{w b t x0 x1 a}(h:O_ w b t x0 x1 a):(At w b 0 x0/\At w b 1 x1/\At w b 2 a) /\
  (w.frozen? ⟨b,0,none⟩=false/\w.frozen? ⟨b,1,none⟩=false/\w.frozen? ⟨b,2,none⟩=false)/\b<w.heap.size:=by
 unfold O_ at h;refine⟨⟨?_,?_,?_⟩,⟨?_,?_,?_⟩,As h⟩<;>simp[World.cell?,World.frozen?,h]
def ka(s a c d){q}(w)(hv:Fw q w a d)(hl:d.length<=1048576) :
  Ca 238 #[.slice a d.length c,.string s] w λe w'=>e=.returned (NI (CU d s))/\Bw w w':=by
 go_enter func238,ntmps238;go_wp2
 go_loopw [10] (λi wr=>∃(k:Nat),k<=d.length/\i=I6 k/\CU d s=CU (d.drop k) s/\O_ wr w.heap.size 187 (I6 0) (I6 0) (.string ⟨#[]⟩)/\Bw w wr) (mz d.length)
 case atStart=>exact⟨0,qd,rfl,rfl,heap_alloc_new _ _,Af⟩
 case round=>
  obtain⟨k,G,rfl,t,O,f⟩:=hrel;obtain⟨l,HBX⟩:=Ak t O;clear t O;obtain⟨⟨n,m,r⟩,⟨H,C,E⟩,g⟩:=HBX.o.facts;by_cases y:k<d.length
  .obtain⟨x,Y⟩:=AJ y;obtain⟨b,o,rfl,A,D,I,K,B⟩:=(hv.J f).get Y;have p:Hid (d.drop k=x::d.drop (k+1)):=Ck Y;have z:∀o,Bw w (wr.alloc o):=λo=>f.alloc f.size _;cases e1:(x.var.toList==s.toList)
   .have HN:Hid (CU d s=CU (d.drop (k+1)) s):=show CU d s=_ from by
     rw[EV]at e1;have:¬x.var=s:=λh=>by subst h;simp at e1
     rw[l.o,p.o,MY,if_neg this]
    have u:Hid (∀o,O_ (wr.alloc o) w.heap.size 187 (I6 0) (I6 0) (.string ⟨#[]⟩)):=show∀o,O_ (wr.alloc o) w.heap.size 187 (I6 0) (I6 0) (.string ⟨#[]⟩) fromλo=>((Aj.alloc AA o).block _ g).j HBX.o;go_wp2;go_roundw
    case rel=>exact⟨k+1,qd,ql,HN.o,u.o _,z _⟩
    case measure=>(simp;omega)
   have HN:Hid (CU d s=some x.val):=show CU d s=_ from by
    rw[EV]at e1;have:x.var=s:=QB;rw[l.o,p.o,MY,if_pos this]
   go_wp2;refine bodyPost_ret (v:=NI (some x.val)) (by simp[results,results238,go_sem,n,m,r,g,NI]) rfl ⟨Nr,?_⟩;exact(((f.setCell qe _).setCell qe _).setCell qe _).alloc (by simp;exact f.size) _
  have HN:Hid (CU d s=none):=show CU d s=_ from by rw[l.o,yD qd];rfl
  go_wp2;refine bodyPost_ret (v:=NI none) (by simp[results,results238,go_sem,n,m,r,NI]) rfl ⟨Nr,?_⟩;exact((f.setCell qe _).setCell qe _).setCell qe _
end Go.Proofs.YtikojfajahnhgaaGreat
