import Derived.Test.YtikojfajahnhgaaGreatKab
set_option linter.all false
set_option maxHeartbeats 3200000
namespace Go.Proofs.YtikojfajahnhgaaGreat
attribute [local simp] At I6 Pn mzI
attribute [local go_sem] At I6 Pn
open Go.RowKit Go.Proofs.Tryz
variable{P:Prop}
section
open Go.Deep
def MC:laidOutB prog=true:=qf
def Zv:ownKnob prog.godebug=none:=qf
def GZ:prog.cellsOf 3=1:=qf
def UK:prog.cellsOf 2=1:=qf
def JP:prog.cellsOf 9=1:=qf
def C8(v:V):Prop:=(Lit.int .i64 v.kind).wf=true/\(Lit.int .i64 v.num).wf=true/\v.av.size<=maxLen
def Uq:prog.cellsOf 290=3:=qf
def Xd{α:Type}{f len i}{x:α}(h:((List.range len).map f)[i]?=some x):i<len/\f i=x:=by
 have a:i<len:=by simpa using(yf.1 h).1
 simp[a]at h;exact⟨a,h⟩
def VC{w:World}{b o a n x y}(O:w.cell? ((⟨b,o,a⟩:Addr).add 0)=some x)(_h:w.cell? ((⟨b,o,a⟩:Addr).add n)=some y):a=none:=by
 have c:=World.cell?_spot O;simpa[Addr.add] using c
section
variable {H : Type} {enc : TypeId × Value -> H} {w : World} {base : Nat} {spare : Nat -> Bool} {held : Bool}
def Ud{n f v1 v2 x}(h:DataW.trod enc prog w base spare held n 290 [f,v1,v2]=some x) :
  ∃v:V,f=I6 v.kind/\v1=I6 v.num/\v2=.string v.av/\C8 v:=by
 obtain⟨l,m,o,k,_,_,Y,g,d⟩:=trod_struct3 underlying290 h;simp only[GZ,UK,JP,WQ,Ws,YG,Y7]at Y g d;obtain⟨a,O,_,i⟩:=YL underlying3 Y;obtain⟨b,c,_,wb⟩:=YL underlying2 g;obtain⟨s,e,_,j⟩:=Wn underlying9 d;simp at O c e;exact⟨(a,b,s),O,c,e,i,wb,j⟩
end
end
def zjJ{P}(w l p ty f b o Y t e O n m cs)(hu:P.underlying l=some (.slice f))(k:(P.info? f).map (·.size)=some m)(g:cs.length=Nat.min O Y*m)(c:e=none->O=0)(s:∀a,e=some a->∀j v,cs[j]?=some v->w.cell? (a.add j)=some v)(hc:∀j,j<cs.length->(w.cell? ⟨b,o+j,none⟩).isSome=true)(x:∀j,j<cs.length->w.frozen? ⟨b,o+j,none⟩=false)(y:∀v∈cs,v.oneCell'=true) :
  (Builtin.copy_ #[l,p] ty #[.slice (some ⟨b,o,none⟩) Y t,.slice e O n]).run P w=.ok (goInt (Nat.min O Y)) (w.setCells b o cs):=by
 have z:=run_storeCells_cells (P:=P) b o cs 0 w qY (by simpa using x) y;cases d:P.info? f with
 |none=>simp[d]at k
 |some i=>
  have u:i.size=m:=by simpa[d] using k
  cases e with
  |none=>
   have q:=c rfl;subst q;have r:cs=[]:=YR (by simpa using g);subst r;simp[Builtin.copy_,run_underlying hu,Builtin.lenOf,Builtin.firstCells,sizeOf,typeInfo,d,storeCells,World.setCells]
  |some a=>
   have hl:=run_loadCells_list (P:=P) w a cs (s a rfl);simp[Builtin.copy_,run_underlying hu,Builtin.lenOf,Builtin.firstCells,sizeOf,typeInfo,d,u,<-g,hl,z]
structure Turned(w w':World) (b:Nat):Prop where
 os:w'.os=w.os
 tape:w'.tape=w.tape
 output:w'.output=w.output
 size:w'.heap.size=w.heap.size
 block:∀k,k≠b->w'.heap[k]?=w.heap[k]?
def Turned.setCells:∀(vs:List Value)(o:Nat)(w:World)(b:Nat),Turned w (w.setCells b o vs) b
 |[],_,_,_=>⟨rfl,rfl,rfl,rfl,λ_ _=>rfl⟩
 |v::r,o,w,b=>by
  have h:=Turned.setCells r (o+1) (w.setCell ⟨b,o,none⟩ v) b
  exact⟨h.os,h.tape,h.output,h.size.j (by simp[World.setCell]),λk a=>(h.block k a).j (Yb _ _ _ _ a)⟩
def Turned.J{w w' b B}(h:Turned w w' b)(a:B<=b):Below B w w':=
 ⟨h.os,h.tape,h.output,W0 h.size.ai,λk c=>h.block k qd⟩
def Turned.cell{w w' b}(h:Turned w w' b){p}(a:p.block≠b):w'.cell? p=w.cell? p:=y8 (w:=w) (h.block _ a)
def mX{w:World}{g o c t a}(h:w.heap[g]?=some (.cells c t a))(vs)(f:o+vs.length<=c.size) :
  (w.setCells g o vs).heap[g]?=some (.cells (c.toList.take o++(vs++c.toList.drop (o+vs.length))).toArray t a):=by
 obtain⟨m,k,l,j,b⟩:=Xs vs o w g c t a h;rw[k];congr 2;apply Array.ext';apply YM;intro i;rw[Yq];by_cases d:i<o
 .rw[b i (Or.inl d)];simp only[KP,Yo,Kh,YU];rw[if_pos qd,if_pos d,Yq]
 by_cases hj:i<o+vs.length
 .have e:vs[i-o]?=some (vs[i-o]'(by omega)):=yK _;have:=j (i-o) _ e qd;rw[show o+(i-o)=i by omega]at this;rw[this];simp only[KP,Yo,Kh];rw[if_neg qd,if_pos qd,show i-min o c.size=i-o by omega,e]
 rw[b i (Or.inr qd)];simp only[KP,Yo,Kh,WA];rw[if_neg qd,if_neg qd,show o+vs.length+(i-min o c.size-vs.length)=i by omega,Yq]
def jK{w:World}{b c t}(h:w.heap[b]?=some (.cells c t (0,0))){o n}(d:o+n<=c.size):w.there b o n:=λj hj=>by
 have a:o+j<c.size:=qd;simp[World.cell?,World.frozen?,h,a]
def L9{w:World}{b c t a}(h:w.heap[b]?=some (.cells c.toArray t a)):w.rangeAt b 0 c:=λj v hv=>by
 simp[World.cell?,h,hv]
def EH{P O rest d a w Q}(Y:d.guard=none)(ty x y)(g:d.op=.store ty x y)(b)(L:List Value)(f:a.eval x=Pn b)(j:a.eval y=.agg L.toArray)(c t)(e:w.heap[b]?=some (.cells c t (0,0)))(k:c.size=L.length)(hi:(P.info? ty).map (·.size)=some L.length)(i:∀v∈L,v.oneCell'=true)(h:∀w',Hid (w'.heap[b]?=some (.cells L.toArray t (0,0)))->Hid (Turned w w' b)->wpList P O Q rest (a.put d.dst undef) w'):wpList P O Q (d::rest) a w:=by
 refine wpList_store_mid Y ty x y g b 0 L.toArray f j (jK e qg) OX (all_oneCell_toArray i) (h _ ?_ (Turned.setCells _ _ _ _));show _=_;have:=mX e (o:=0) L qd;rw[this];simp[yD (show c.toList.length<=L.length by simp;omega)]
def Xv{P O rest c a w Q}(Y:c.guard=none)(ty x)(f:c.op=.load ty x)(b)(L:List Value)(e:a.eval x=Pn b)(t i)(j:w.heap[b]?=some (.cells L.toArray t i))(d)(hu:P.underlying ty=some d)(hd:d.isRow=true)(g:(P.info? ty).map (·.size)=some L.length)(h:wpList P O Q rest (a.put c.dst (.agg L.toArray)) w):wpList P O Q (c::rest) a w:=
 wpList_load_mid Y ty x f b 0 e L d (L9 j) hu hd g h
def mM{P w u o a K Q E}(y:o.guard=none)(d s i l)(A:o.op=.call { callee:=.builtin .copy,args:=#[d,s],argTypes:=#[i,l] })(k m)(hu:P.underlying i=some (.slice k))(z:(P.info? k).map (·.size)=some m)(b off Y p g O n)(hd:a.eval d=.slice (some ⟨b,off,none⟩) Y p)(C:a.eval s=.slice g O n)(c t)(q:w.heap[b]?=some (.cells c t (0,0)))(cs)(D:cs.length=Nat.min O Y*m)(f:g=none->O=0)(G:∀a,g=some a->∀j v,cs[j]?=some v->w.cell? (a.add j)=some v)(e:off+cs.length<=c.size)(H:∀v∈cs,v.oneCell'=true)(h:∀w',Hid (w'.heap[b]?=some (.cells (c.toList.take off++(cs++c.toList.drop (off+cs.length))).toArray t (0,0)))->Hid (Turned w w' b)->K (a.put o.dst (goInt (Nat.min O Y))) w') :
  if Region.wanted o (yielded u a.tmps)=true then Oper.wp P o a w K Q else E:=by
 have B:Region.wanted o (yielded u a.tmps)=true:=by simp[Region.wanted,y]
 rw[if_pos B];have r:=jK q e;have x:=zjJ (P:=P) w i l o.type k b off Y p g O n m cs hu z D f G (λj hj=>(r j hj).1) (λj hj=>(r j hj).2) H;unfold Oper.wp;simp[execOp,A,resolve,invoke,builtin,hd,C,x,Result.andThen];exact h _ (mX q cs e) (Turned.setCells _ _ _ _)
def zfm{P w}(base t ty e i size)(d:P.underlying t=some (.slice e))(b:P.info? e=some i)(v n xs)(a:w.ownsRow base e size v n xs)(c) :
  (Builtin.append_ #[t,t] ty #[v,.slice none 0 c]).run P w=.ok v w:=by
 rcases a.2 with⟨rfl,rfl⟩|⟨g,cap,Y,rfl,_,_,O,_⟩
 .simp[Builtin.append_,run_underlying d,sizeOf,typeInfo,b,Builtin.lenOf,Builtin.firstCells]
 simp[Builtin.append_,run_underlying d,sizeOf,typeInfo,b,Builtin.lenOf,Builtin.firstCells,O,storeCells]
def zis{P}(w base t ty e z size Y)(y:P.underlying t=some (.slice e))(hinfo:(P.info? e).map (λi=>(i.zero,i.size,i.bytes))=some (some z,size,Y))(r:z.cells.size=size)(o:0<size)(v n xs)(b:w.ownsRow base e size v n xs)(l m c news)(hl:news.length=m*size)(k:l=none->m=0)(hnews:∀a,l=some a->∀j u,news[j]?=some u->w.cell? (a.add j)=some u)(K:∀u∈news,u.oneCell'=true)(p:n+m<=maxLen)(hbytes:(n+m)*Y<=140737488355328)(hbase:base<=w.heap.size) :
  ∃ d f w',(Builtin.append_ #[t,t] ty #[v,.slice l m c]).run P w=.ok (.slice d (n+m) f) w'/\w'.ownsRow base e size (.slice d (n+m) f) (n+m) (xs ++ news)/\w.grownBy w' v.ownBlock /\
   ((Value.slice d (n+m) f).ownBlock=v.ownBlock∨(Value.slice d (n+m) f).ownBlock=some w.heap.size):=by
 obtain⟨i,s,I,C,A⟩:=info_parts hinfo;cases l with
 |none=>
  obtain rfl:=k rfl;have q:=zfm (P:=P) (w:=w) base t ty e i size y s v n xs b c;have E:news=[]:=YR Mh;subst E;have O:∃d f,v=.slice d n f:=by
   rcases b.2 with⟨rfl,rfl⟩|⟨g,cap,D,rfl,_⟩
   .exact⟨none,0,rfl⟩
   exact⟨_,_,rfl⟩
  obtain⟨d,f,rfl⟩:=O;exact⟨d,f,w,q,by simpa using b,⟨rfl,rfl,rfl,yX _,λ_ _ _=>rfl⟩,.inl rfl⟩
 |some a=>
  obtain⟨J,w',q,x,B,_,G⟩:=run_append_own_at (P:=P) w base t ty e i z size Y y s I C A r o v n xs b a m c news hl (hnews a rfl) K p hbytes hbase;have O:∃d f,J=.slice d (n+m) f:=by
   rcases x.2 with⟨rfl,H⟩|⟨g,cap,D,rfl,_⟩
   .exact⟨none,0,by rw[H]⟩
   exact⟨_,_,rfl⟩
  obtain⟨d,f,rfl⟩:=O;exact⟨d,f,w',q,x,B,G⟩
def Xo{P w}{o:Oper}{a K Q}(s x t)(B:o.op=.call { callee:=.builtin .append,args:=#[s,x],argTypes:=#[t,t] })(base e z size O)(G:P.underlying t=some (.slice e))(hinfo:(P.info? e).map (λi=>(i.zero,i.size,i.bytes))=some (some z,size,O))(q:z.cells.size=size)(l:0<size)(v n xs)(r:a.eval s=v)(g:w.ownsRow base e size v n xs)(k m c)(A:a.eval x=.slice k m c)(news)(hl:news.length=m*size)(f:k=none->m=0)(hnews:∀a,k=some a->∀j u,news[j]?=some u->w.cell? (a.add j)=some u)(H:∀u∈news,u.oneCell'=true)(p:n+m<=maxLen)(hbytes:(n+m)*O<=140737488355328)(hbase:base<=w.heap.size)(h:∀b d w',Hid (w'.ownsRow base e size (.slice b (n+m) d) (n+m) (xs++news))->Hid (w.grownBy w' v.ownBlock)->Hid ((Value.slice b (n+m) d).ownBlock=v.ownBlock∨(Value.slice b (n+m) d).ownBlock=some w.heap.size)->K (a.put o.dst (.slice b (n+m) d)) w'):o.wp P a w K Q:=by
 obtain⟨b,d,w',E,C,y,D⟩:=zis (P:=P) w base t o.type e z size O G hinfo q l v n xs g k m c news hl f hnews H p hbytes hbase;unfold Oper.wp execOp;simp only[B,resolve,invoke,builtin,S_,Sem.run_pure,Kx,List.map_toArray,yn,YF,r,A,E];exact h b d w' C y D
def EU{P w Y rest o a Q}(E:o.guard=none)(s x t)(B:o.op=.call { callee:=.builtin .append,args:=#[s,x],argTypes:=#[t,t] })(base e z size O)(G:P.underlying t=some (.slice e))(hinfo:(P.info? e).map (λi=>(i.zero,i.size,i.bytes))=some (some z,size,O))(q:z.cells.size=size)(l:0<size)(v n xs)(r:a.eval s=v)(g:w.ownsRow base e size v n xs)(k m c)(A:a.eval x=.slice k m c)(news)(hl:news.length=m*size)(f:k=none->m=0)(hnews:∀a,k=some a->∀j u,news[j]?=some u->w.cell? (a.add j)=some u)(H:∀u∈news,u.oneCell'=true)(p:n+m<=maxLen)(hbytes:(n+m)*O<=140737488355328)(hbase:base<=w.heap.size)(h:∀b d w',Hid (w'.ownsRow base e size (.slice b (n+m) d) (n+m) (xs++news))->Hid (w.grownBy w' v.ownBlock)->Hid ((Value.slice b (n+m) d).ownBlock=v.ownBlock∨(Value.slice b (n+m) d).ownBlock=some w.heap.size)->wpList P Y Q rest (a.put o.dst (.slice b (n+m) d)) w'):wpList P Y Q (o::rest) a w:=
 wpList_plain E λ_ I=>Xo s x t B base e z size O G hinfo q l v n xs r g k m c A news hl f hnews H p hbytes hbase λb d w' C y D=>I _ _ (h b d w' C y D)
def IY{P w Y o a K Q E}(C:o.guard=none)(s x t)(A:o.op=.call { callee:=.builtin .append,args:=#[s,x],argTypes:=#[t,t] })(base e z size O)(D:P.underlying t=some (.slice e))(hinfo:(P.info? e).map (λi=>(i.zero,i.size,i.bytes))=some (some z,size,O))(q:z.cells.size=size)(l:0<size)(v n xs)(r:a.eval s=v)(d:w.ownsRow base e size v n xs)(f m c)(y:a.eval x=.slice f m c)(news)(hl:news.length=m*size)(b:f=none->m=0)(hnews:∀a,f=some a->∀j u,news[j]?=some u->w.cell? (a.add j)=some u)(G:∀u∈news,u.oneCell'=true)(p:n+m<=maxLen)(hbytes:(n+m)*O<=140737488355328)(hbase:base<=w.heap.size)(h:∀g k w',Hid (w'.ownsRow base e size (.slice g (n+m) k) (n+m) (xs++news))->Hid (w.grownBy w' v.ownBlock)->Hid ((Value.slice g (n+m) k).ownBlock=v.ownBlock∨(Value.slice g (n+m) k).ownBlock=some w.heap.size)->K (a.put o.dst (.slice g (n+m) k)) w') :
  if Region.wanted o (yielded Y a.tmps)=true then Oper.wp P o a w K Q else E:=by
 have B:Region.wanted o (yielded Y a.tmps)=true:=by simp[Region.wanted,C]
 rw[if_pos B];exact Xo s x t A base e z size O D hinfo q l v n xs r d f m c y news hl b hnews G p hbytes hbase h
def BZ{w w':World}{base e size v n xs}(h:w.ownsRow base e size v n xs)(b:∀g,v.ownBlock=some g->w'.heap[g]?=w.heap[g]?):w'.ownsRow base e size v n xs:=by
 refine⟨h.1,?_⟩;rcases h.2 with h|⟨g,cap,O,rfl,a,c,d⟩
 .exact .inl h
 exact .inr ⟨g,cap,O,rfl,a,(b g rfl).j c,d⟩
def DT{w:World}{base base' e size v n xs}(h:w.ownsRow base e size v n xs)(c:base'<=base):w.ownsRow base' e size v n xs:=by
 refine⟨h.1,?_⟩;rcases h.2 with h|⟨g,cap,O,rfl,b,a⟩
 .exact .inl h
 exact .inr ⟨g,cap,O,rfl,qd,a⟩
def CC{w:World}{base e size a n c xs}(h:w.ownsRow base e size (.slice a n c) n xs){j x}(b:xs[j]?=some x):∃g,a=some ⟨g,0,none⟩/\base<=g/\At w g j x/\w.frozen? ⟨g,j,none⟩=false:=by
 have hj:j<xs.length:=(yf.1 b).1;rcases h.2 with⟨_,Y⟩|⟨g,cap,O,d,i,f,o,l,m,k⟩
 .have:=h.1;subst Y;simp at this;subst this;simp at hj
 simp only[Y4]at d;obtain⟨rfl,_,_⟩:=d;refine⟨g,rfl,i,?_,by simp[World.frozen?,f]⟩;rw[<-k,YU]at b;split at b
 .simp[World.cell?,f];simpa using b
 cases b
def AL(x y:Value):Prop:=∀g,x.ownBlock=some g->y.ownBlock≠some g
def AX.owns{w g t m N base rs}(h:AX w g t m N rs)(G:base<=g)(s:rs.length=N)(E:N<=maxLen):w.ownsRow base t m (.slice (some ⟨g,0,none⟩) N N) N rs.flatten:=by
 obtain⟨c,H,B,_,p⟩:=h;have y:rs.flatten.length=N*m:=by
  rw[List.length_flatten];have:∀(l:List (List Value)),(∀r∈l,r.length=m)->(l.map List.length).sum=l.length*m:=by
   intro l
   induction l with
   |nil=>intro _;simp
   |cons r l ih=>
    intro b;rw[yn,YN,ih (λx o=>b x (by simp[o])),b r qe,yH,Kv];omega
  rw[this rs (λr b=>by
   obtain⟨i,e,rfl⟩:=Wt b;exact(p i _ (yK e)).1),s]
 refine⟨y,.inr ⟨g,N,c,rfl,G,H,yX _,E,B,?_⟩⟩;rw[yu qg];apply YM;intro j;by_cases hj:j<N*m
 .have O:0<m:=by
   rcases Nat.eq_zero_or_pos m with q|q
   .subst q;simp at hj
   exact q
  have e:j/m<rs.length:=by rw[s];exact Nat.div_lt_of_lt_mul (by rw[Nat.mul_comm];exact hj)
  obtain⟨b,C⟩:=p (j/m) _ (yK e);have u:j%m<rs[j/m].length:=by rw[b];exact Nat.mod_lt _ O
  have v:=C (j%m) _ (yK u);rw[Nat.div_add_mod' j m]at v;rw[Yq,v];have key:∀(l:List (List Value))(k:Nat),(∀r∈l,r.length=m)->∀(d:k/m<l.length)(D:k%m<(l[k/m]).length),l.flatten[k]?=some ((l[k/m])[k%m]):=by
   intro l
   induction l with
   |nil=>intro k _ d;simp at d
   |cons r l ih=>
    intro k a d D;have I:r.length=m:=a r qe;rw[List.flatten_cons];by_cases Y:k<m
    .have f:k/m=0:=Nat.div_eq_of_lt Y;have n:k%m=k:=Nat.mod_eq_of_lt Y;rw[yB qd];simp only[f,n,List.getElem_cons_zero];rw[yK qd]
    have f:k/m=(k-m)/m+1:=by
     have:=Nat.add_div_right (k-m) O;rw[Nat.sub_add_cancel qd]at this;exact this
    have n:k%m=(k-m)%m:=by
     have:=Nat.add_mod_right (k-m) m;rw[Nat.sub_add_cancel qd]at this;exact this
    rw[yF qd,I];have A:(k-m)/m<l.length:=by
     rw[f]at d;simpa using d
    have:=ih (k-m) (λx o=>a x (by simp[o])) A (by rw[a _ (by simp[WZ])];exact Nat.mod_lt _ O);rw[this];simp only[f,n,List.getElem_cons_succ]
  exact(key rs j (λr b=>by
   obtain⟨i,z,rfl⟩:=Wt b;exact(p i _ (yK z)).1) e u).ai
 rw[Yr qg,Yr qd]
def Left(r left:Int)(n:Nat):Prop:=r = -1∨0<=r/\r+n<=left
def VX(v left w)(a:v.av.size<=maxLen)(O:0<=left)(b:left<=1048576) :
  Ca 183 #[.agg #[I6 v.kind,I6 v.num,.string v.av],I6 left] w λe w'=>
   (∃r:Int,e=.returned (I6 r)/\Left r left (IZ v))/\Bw w w':=by
 unfold maxLen at a;go_enter func183,ntmps183;go_wp2
 all_goals go_ret
 .exact⟨⟨-1,rfl,.inl rfl⟩,Af⟩
 exact⟨⟨_,rfl,.inr ⟨qj,by unfold IZ;omega⟩⟩,Af⟩
def TU:(prog.info? 187).map (λi=>(i.zero,i.size,i.bytes))=some (some (.agg #[I6 0,I6 0,.string ByteArray.empty]),3,32):=qf
def M7{P}(t e z)(size O:Nat)(j:P.underlying t=some (.slice e))(hinfo:(P.info? e).map (λi=>(i.zero,i.size,i.bytes))=some (some (.agg z),size,O))(n)(k:O*n<=281474976710656)(g:n<=9223372036854775807)(w) :
  (Instr.makeSlice t (I6 (n:Int)) (I6 (n:Int))).run P w=.ok (.slice (some ⟨w.heap.size,0,none⟩) n n) (w.alloc (.cells (madeCells z (n*size)) e)):=by
 obtain⟨i,d,c,Y,f⟩:=info_parts hinfo;have a:(i.bytes:Int)*(n:Int)<=281474976710656:=by
  rw[f];have h:((O*n:Nat):Int)<=281474976710656:=qd;rwa [Int.natCast_mul]at h
 have b:=run_make (P:=P) w t e i _ j d c .i64 .i64 n n qd (Wm _) a qd;simp only[YK,Y,Value.cells]at b;exact b
def VT(v:V)(w) :
  Ca 187 #[.agg #[I6 v.kind,I6 v.num,.string v.av]] w λe w'=>
   e=.returned (.agg #[I6 v.kind,I6 v.num,.string v.av])/\Bw w w':=by
 go_enter func187,ntmps187;go_wp2;exact bodyPost_ret (v:=.agg #[I6 v.kind,I6 v.num,.string v.av]) (by simp[results,results187,go_sem]) rfl ⟨rfl,(Af.alloc qe _).alloc qg _⟩
section
attribute [local go_sem ↓] wp_at_zero wp_at_succ
def Xf(v:V)(w) :
  Ca 192 #[.agg #[I6 v.kind,I6 v.num,.string v.av],.agg #[I6 v.kind,I6 v.num,.string v.av]] w λe w'=>
   e=.returned (.bool true)/\Bw w w':=by
 go_enter func192,ntmps192;go_wp2;go_ret;exact⟨rfl,Af.alloc qe _⟩
end
structure Tt where
 slot:Int
 op:Int
 other:Int
 val:V
def Tt.R(_:World)(r:List Value)(x:Tt):Prop:=r=[.int .i64 x.slot,.int .i64 x.op,.int .i64 x.other,.int .i64 x.val.kind,.int .i64 x.val.num,.string x.val.av]
abbrev EC(q:Option Nat)(w:World)(a:Option Addr)(xs:List Tt):Prop:=Bq Tt.R q 320 6 w a xs
def EC.J{q w w' a xs}(h:EC q w a xs)(b:Bw w w'):EC q w' a xs:=Bq.J h (λ_ _ _ h=>h) b
def EC.bare{q w a xs}(h:EC q w a xs):EC none w a xs:=Bq.aK h (λb _=>Qb.bare _ _ b) (λ_ _ _ h=>h)
def EC.get{q w a xs i x}(h:EC q w a xs)(hi:xs[i]?=some x):∃b o,a=some ⟨b,o,none⟩/\Qb q w 320 b/\At w b (o+i*6) (I6 x.slot)/\At w b (o+i*6+1) (I6 x.op)/\At w b (o+i*6+2) (I6 x.other)/\At w b (o+i*6+3) (I6 x.val.kind)/\At w b (o+i*6+4) (I6 x.val.num)/\At w b (o+i*6+5) (.string x.val.av):=by
 exact oC
def Tt.le(N:Nat)(x:Tt):Prop:=x.val.av.size<=N
structure Al where
 ak:ByteArray
 arity:Int
 ah:List Tt
def Al.R(q:Option Nat)(w:World)(r:List Value)(x:Al):Prop:=∃a_tests c_tests,r=[.string x.ak,.int .i64 x.arity,.slice a_tests x.ah.length c_tests]/\EC q w a_tests x.ah
abbrev Oa(q:Option Nat)(w:World)(a:Option Addr)(xs:List Al):Prop:=Bq (Al.R q) q 245 3 w a xs
def Oa.J{q w w' a xs}(h:Oa q w a xs)(b:Bw w w'):Oa q w' a xs:=Bq.J h (λ_ _ _⟨a_tests,c_tests,e,O⟩=>⟨a_tests,c_tests,e,O.J b⟩) b
def Oa.bare{q w a xs}(h:Oa q w a xs):Oa none w a xs:=Bq.aK h (λb _=>Qb.bare _ _ b) (λ_ _ _⟨a_tests,c_tests,e,O⟩=>⟨a_tests,c_tests,e,O.bare⟩)
def Al.le(N:Nat)(x:Al):Prop:=x.ak.size<=N/\CP Tt.le N x.ah
def Mn(v o:V):Bool:=v.kind==o.kind&&(v.num==o.num&&decide (v.av.toList=o.av.toList))
def Iq(v o:V):Bool:=v.kind==0&&o.kind==0
def A2(op:Int)(v o:V):Bool:=
 if op==1 then Mn v o
 else if op==2 then !Mn v o
 else if op==3 then Iq v o&&decide (v.num<o.num)
 else if op==4 then Iq v o&&decide (o.num<v.num)
 else if op==5 then Iq v o&&decide (v.num<=o.num)
 else if op==6 then Iq v o&&decide (o.num<=v.num)
 else false
def nK(h:P:=by
 cases k1:(v.kind==0)<;>cases k2:(o.kind==0)
 all_goals
  go_enter func173,ntmps173;go_wp2
 all_goals go_ret
 all_goals exact⟨AE (by simp[A2,Mn, *]),Ax⟩
 ):=h
def Th(h:P:=by
 cases k1:(v.kind==0)<;>cases k2:(o.kind==0)
 all_goals
  go_enter func173,ntmps173;go_wp2
 all_goals go_ret
 all_goals exact⟨AE (by simp[A2,Iq, *]),Ax⟩
 ):=h
def Vi(v o a w) :
  Ca 173 #[.agg #[I6 v.kind,I6 v.num,.string v.av],I6 a,.agg #[I6 o.kind,I6 o.num,.string o.av]] w λe w'=>
   e=.returned (.bool (A2 a v o))/\Bw w w':=by
 by_cases i:a=1
 .subst i;exact nK
 by_cases d:a=2
 .subst d;exact nK
 by_cases c:a=3
 .subst c;exact Th
 by_cases f:a=4
 .subst f;exact Th
 by_cases b:a=5
 .subst b;exact Th
 by_cases g:a=6
 .subst g;exact Th
 cases k1:(v.kind==0)<;>cases k2:(o.kind==0)
 all_goals
  go_enter func173,ntmps173;go_wp2
 all_goals go_ret
 all_goals exact⟨AE (by simp[A2, *]),Ax⟩
def Am(xs:List Int):List Value:=xs.map (Value.int .i64)
structure H9(w:World) (base:Nat) (v:Value) (n:Nat) (xss:List (List Int)) (vs:List Value):Prop where
 num:n=xss.length
 len:vs.length=xss.length
 own:w.ownsRow base 30 1 v n vs
 each:∀(i:Nat)(xs:List Int)(x:Value),xss[i]?=some xs->vs[i]?=some x->(∃a c,x=.slice a xs.length c)/\w.ownsRow base 3 1 x xs.length (Am xs)
 apart:∀x∈vs,AL v x
 pair:vs.Pairwise AL
def Ra(v:Value)(vs:List Value)(g:Nat):Prop:=v.ownBlock=some g∨∃x∈vs,x.ownBlock=some g
def H9.bL{w base v n xss vs}(h:H9 w base v n xss vs){x}(c:x∈vs):∃xs∈xss,w.ownsRow base 3 1 x xs.length (Am xs):=by
 obtain⟨i,b,rfl⟩:=Wt c;have a:i<xss.length:=by rw[<-h.len];exact b
 exact⟨xss[i],WZ a,(h.each i _ _ (yK a) (yK b)).2⟩
def H9.range{w base v n xss vs}(h:H9 w base v n xss vs){g}(a:Ra v vs g):base<=g/\g<w.heap.size:=by
 rcases a with a|⟨x,b,a⟩
 .exact h.own.lt g a
 obtain⟨xs,_,c⟩:=h.bL b;exact c.lt g a
def H9.kept{w w' base v n xss vs}(h:H9 w base v n xss vs)(c:∀g,Ra v vs g->w'.heap[g]?=w.heap[g]?):H9 w' base v n xss vs:=
 ⟨h.num,h.len,BZ h.own (λg a=>c g (.inl a)),λi f x d b=>⟨(h.each i f x d b).1,BZ (h.each i f x d b).2 (λg a=>c g (.inr ⟨x,yd b,a⟩))⟩,h.apart,h.pair⟩
def H9.J{w w' base v n xss vs}(h:H9 w base v n xss vs)(b:Bw w w'):H9 w' base v n xss vs:=
 h.kept λg a=>b.block g (h.range a).2
def H9.nil(w base):H9 w base (.slice none 0 0) 0 [] []:=
 ⟨rfl,rfl,y9 _ _ _ _,λi f x hf=>Mi,λx hx=>qN,List.Pairwise.nil⟩
def Bf.owns{w base n a c xs}(h:w.ownsRow base 3 1 (.slice a n c) n (Am xs)):Bf none w a xs:=by
 intro i s b;have Y:(Am xs)[i]?=some (I6 s):=by simp[Am,b]
 obtain⟨g,rfl,_,h0,_⟩:=CC h Y;refine⟨g,0,[I6 s],rfl,Qb.bare _ _ _,rfl,?_,rfl⟩;exact mZ
def Re(w:World)(a:Option Addr)(xss:List (List Int)):Prop:=
 ∀(i:Nat)(xs:List Int),xss[i]?=some xs->∃b o a' c',a=some ⟨b,o,none⟩/\w.cell? ⟨b,o+i,none⟩=some (.slice a' xs.length c')/\Bf none w a' xs
def Re.J{w w' a xss}(h:Re w a xss)(c:Bw w w'):Re w' a xss:=by
 intro i xs f;obtain⟨b,o,j,k,e,d,g⟩:=h i xs f;exact⟨b,o,j,k,e,zab c d,g.J c⟩
def H9.at{w base a n c xss vs}(h:H9 w base (.slice a n c) n xss vs):Re w a xss:=by
 intro i xs b;have f:i<xss.length:=(yf.1 b).1;have hv:vs[i]?=some (vs[i]'(by rw[h.len];exact f)):=yK _;obtain⟨⟨j,k,e⟩,d⟩:=h.each i xs _ b hv;obtain⟨g,rfl,_,O,_⟩:=CC h.own hv;rw[e]at O d;exact⟨g,0,j,k,rfl,qA,Bf.owns d⟩
def A8{w:World}{base e m v n xs}(h:w.ownsRow base e m v n xs){k}(a:v.ownBlock=some k):∃c,w.heap[k]?=some (.cells c e (0,0)):=by
 rcases h.2 with⟨rfl,_⟩|⟨g,cap,O,rfl,_,b,_⟩
 .simp[Value.ownBlock]at a
 simp[Value.ownBlock]at a;subst a;exact⟨O,b⟩
def CB{w:World}{k:Nat}{c b t Y f d}(h:w.heap[k]?=some (.cells c t f))(O:w.heap[k]?=some (.cells b Y d))(a:t≠Y):False:=by
 rw[h]at O;simp at O;exact a O.2.1
def Bt{P:World->Prop}{a o}(h:∀wt,Bw a wt->wt.heap[a.heap.size]?=some o->P wt):P (a.alloc o):=h _ Af (heap_alloc_new _ _)
def MJ{w w':World}{base e t m v n xs row}(h:w.ownsRow base e m v n xs)(d:w.grownBy w' row)(g:∀k,row=some k->∃c,w.heap[k]?=some (.cells c t (0,0)))(a:t≠e):w'.ownsRow base e m v n xs:=
 BZ h λk b=>d.block k (h.lt k b).2 (λe=>by
  obtain⟨c,f⟩:=g k e.ai
  obtain⟨i,O⟩:=A8 h b
  exact CB f O a)
def RP{w:World}{base b o e t m v n xs x c f}(h:w.ownsRow base e m v n xs)(g:w.heap[b]?=some (.cells c t f))(a:t≠e):(w.setCell ⟨b,o,none⟩ x).ownsRow base e m v n xs:=
 BZ h λk d=>Yb _ _ _ _ (λe=>by
  obtain⟨i,O⟩:=A8 h d
  have Y:k=b:=e
  subst Y
  exact CB g O a)
def Gq{w w':World}{b:Nat}{t O c d row}(h:w.heap[b]?=some (.cells c t d))(f:w.grownBy w' row)(i:∀k,row=some k->∃c,w.heap[k]?=some (.cells c O (0,0)))(a:O≠t):w'.heap[b]?=some (.cells c t d):=
 (f.block b (As h) (λe=>by
  obtain⟨l,g⟩:=i b e.ai
  exact CB g h a)).j h
def Ig{α:Type}{cells m}(a:∀x,(cells x).length=m):∀(xs:List α)(i:Nat)(x:α)(j:Nat)(u:Value),xs[i]?=some x->(cells x)[j]?=some u->(xs.flatMap cells)[i*m+j]?=some u
 |[],i,x,j,u,h,_=>by simp at h
 |y::r,0,x,j,u,h,hj=>by
  simp at h
  subst h
  have hl:j<(cells y).length:=(yf.1 hj).1
  rw[yE,Nat.zero_mul,Yt,yB hl]
  exact hj
 |y::r,i+1,x,j,u,h,hj=>by
  rw[yw]at h
  have:=Ig a r i x j u h hj
  have e:(i+1)*m=i*m+m:=Kv i m
  rw[yE,yF (by rw[a];omega),show(i+1)*m+j-(cells y).length=i*m+j by rw[a];omega]
  exact this
def tk{P:Program}{l:List Oper}{Q:Exit->Act->World->Prop}{md:Region.Mode}{S:World->Prop}(i:Nat){oi:Oper}{v:Value}{Y:Nat}{O:Array Bool}{a:Act}{w:World}(hS:S w)
  (h:wpAnyH P md l.toArray (NoPanic Q) S Y (O.setIfInBounds i true) (a.put oi.dst v) w) (hi:l[i]?=some oi:=by rfl)
  (hs:Region.noSelect l.toArray=true:=by kernel_rfl) (hf:Region.free md l.toArray O i=true:=by kernel_rfl) (hr:(Region.ready md l.toArray O).contains i=true:=by kernel_rfl)
  (hw:Region.wanted oi (yielded l.toArray a.tmps)=true:=by rfl) (hy:∀w,S w->(execOp a.eval oi).run P w=.ok (.value v) w:=by intro w af;(try dsimp only at af);go_simp;try with_reducible rfl):wpAnyH P md l.toArray (NoPanic Q) S (Y+1) O a w:=
 wpAnyH_take (yj.j hi) hs hf hr (λ_ _ _ h=>h) (.inl ⟨hw,hy⟩) hS h
def tn{P:Program}{l:List Oper}{Q:Exit->Act->World->Prop}{md:Region.Mode}{S:World->Prop}(i:Nat){oi:Oper}{Y:Nat}{O:Array Bool}{a:Act}{w:World}(hS:S w)
  (h:wpAnyH P md l.toArray (NoPanic Q) S Y (O.setIfInBounds i true) (a.put oi.dst undef) w) (hi:l[i]?=some oi:=by rfl)
  (hs:Region.noSelect l.toArray=true:=by kernel_rfl) (hf:Region.free md l.toArray O i=true:=by kernel_rfl) (hr:(Region.ready md l.toArray O).contains i=true:=by kernel_rfl)
  (hw:Region.wanted oi (yielded l.toArray a.tmps)=false:=by rfl):wpAnyH P md l.toArray (NoPanic Q) S (Y+1) O a w:=
 wpAnyH_take (yj.j hi) hs hf hr (λ_ _ _ h=>h) (.inr ⟨hw,rfl⟩) hS h
def r1{P:Program}{l:List Oper}{Q:Exit->Act->World->Prop}{md:Region.Mode}{S:World->Prop}(i:Nat){o:Oper}{Y:Nat}{O:Array Bool}{a:Act}{w:World}
  (h:∀K':Act->World->Prop,Shut (∀a w,S w->(S w->wpAnyH P md l.toArray Q S Y (O.setIfInBounds i true) a w)->K' a w)->if Region.wanted o (yielded l.toArray a.tmps)=true then Oper.wp P o a w K' Q else K' (a.put o.dst undef) w)
  (hi:l[i]?=some o:=by rfl) (hr:Region.ready md l.toArray O=[i]:=by kernel_rfl):wpAnyH P md l.toArray Q S (Y+1) O a w:=
 wpAnyH_ready hr qe (Yi (yj.j hi) h Ys)
def r2{P:Program}{l:List Oper}{Q:Exit->Act->World->Prop}{md:Region.Mode}{S:World->Prop}(i j:Nat){o o':Oper}{Y:Nat}{O:Array Bool}{a:Act}{w:World}
  (h:∀K':Act->World->Prop,Shut (∀a w,S w->(S w->wpAnyH P md l.toArray Q S Y (O.setIfInBounds i true) a w)->K' a w)->if Region.wanted o (yielded l.toArray a.tmps)=true then Oper.wp P o a w K' Q else K' (a.put o.dst undef) w)
  (h':∀K':Act->World->Prop,Shut (∀a w,S w->(S w->wpAnyH P md l.toArray Q S Y (O.setIfInBounds j true) a w)->K' a w)->if Region.wanted o' (yielded l.toArray a.tmps)=true then Oper.wp P o' a w K' Q else K' (a.put o'.dst undef) w)
  (hi:l[i]?=some o:=by rfl) (hj:l[j]?=some o':=by rfl) (hr:Region.ready md l.toArray O=[i,j]:=by kernel_rfl):wpAnyH P md l.toArray Q S (Y+1) O a w:=
 wpAnyH_ready hr qe (Yi (yj.j hi) h (Yi (yj.j hj) h' Ys))
def pA(l:List Value)(d)(t:Nat)(v):({ tmps:=l.toArray,defers:=d }:Act).put (some t) v={ tmps:=(l.set t v).toArray,defers:=d }:=by simp[Act.put]
def pN(a:Act)(v):a.put none v=a:=rfl
def pZ{α:Type}(x v:α)(l):(x::l).set 0 v=v::l:=rfl
def pS{α:Type}(x v:α)(l n):(x::l).set (n+1) v=x::l.set n v:=rfl
def Rg(_i _j:Nat):Prop:=True
def Rg.nx{i j}(_t:Rg i j):Rg (i+1) j:=trivial
def Wr(Q:Prop):Prop:=Q
def Wr.o{Q}(h:Wr Q):Q:=h
def Dr{P:Program}{l:List Oper}{Q:Exit->Act->World->Prop}{md:Region.Mode}{S:World->Prop}{i j:Nat}(_t:Rg i j){oi:Oper}{v:Value}{Y:Nat}{O:Array Bool}{a:Act}{w:World}(hS:S w)
  (h:wpAnyH P md l.toArray (NoPanic Q) S Y (O.setIfInBounds i true) (a.put oi.dst v) w) (_hij:decide (i<j)=true:=by rfl) (hi:l[i]?=some oi:=by rfl)
  (hs:Region.noSelect l.toArray=true:=by kernel_rfl) (hf:Region.free md l.toArray O i=true:=by kernel_rfl) (hr:(Region.ready md l.toArray O).contains i=true:=by kernel_rfl)
  (hw:Region.wanted oi (yielded l.toArray a.tmps)=true:=by rfl) (hy:∀w,S w->(execOp a.eval oi).run P w=.ok (.value v) w:=by intro w af;(try dsimp only at af);go_simp;try with_reducible rfl):wpAnyH P md l.toArray (NoPanic Q) S (Y+1) O a w:=
 tk i hS h hi hs hf hr hw hy
def Dp{P:Program}{l:List Oper}{Q:Exit->Act->World->Prop}{md:Region.Mode}{S:World->Prop}{i j:Nat}(_t:Rg i j){oi:Oper}{Y:Nat}{O:Array Bool}{a:Act}{w:World}(hS:S w)
  (h:wpAnyH P md l.toArray (NoPanic Q) S Y (O.setIfInBounds i true) (a.put oi.dst undef) w) (_hij:decide (i<j)=true:=by rfl) (hi:l[i]?=some oi:=by rfl)
  (hs:Region.noSelect l.toArray=true:=by kernel_rfl) (hf:Region.free md l.toArray O i=true:=by kernel_rfl) (hr:(Region.ready md l.toArray O).contains i=true:=by kernel_rfl)
  (hw:Region.wanted oi (yielded l.toArray a.tmps)=false:=by rfl):wpAnyH P md l.toArray (NoPanic Q) S (Y+1) O a w:=
 tn i hS h hi hs hf hr hw
def sr(i j:Nat){P Q:Prop}(k:Q)(h:Rg i j->Wr Q->P:=by intro O Y;(first|((first|refine Dr O hHeld ?_|refine Dp O hHeld ?_);(try simp only[pA,pZ,pS,pN]);replace O:=O.nx;(try simp only[Nat.reduceAdd]at O);(first|((first|refine Dr O hHeld ?_|refine Dp O hHeld ?_);(try simp only[pA,pZ,pS,pN]);replace O:=O.nx;(try simp only[Nat.reduceAdd]at O);(first|((first|refine Dr O hHeld ?_|refine Dp O hHeld ?_);(try simp only[pA,pZ,pS,pN]);replace O:=O.nx;(try simp only[Nat.reduceAdd]at O);(first|((first|refine Dr O hHeld ?_|refine Dp O hHeld ?_);(try simp only[pA,pZ,pS,pN]);replace O:=O.nx;(try simp only[Nat.reduceAdd]at O);(first|((first|refine Dr O hHeld ?_|refine Dp O hHeld ?_);(try simp only[pA,pZ,pS,pN]);replace O:=O.nx;(try simp only[Nat.reduceAdd]at O);(first|((first|refine Dr O hHeld ?_|refine Dp O hHeld ?_);(try simp only[pA,pZ,pS,pN]);replace O:=O.nx;(try simp only[Nat.reduceAdd]at O);(first|((first|refine Dr O hHeld ?_|refine Dp O hHeld ?_);(try simp only[pA,pZ,pS,pN]);replace O:=O.nx;(try simp only[Nat.reduceAdd]at O);(first|((first|refine Dr O hHeld ?_|refine Dp O hHeld ?_);(try simp only[pA,pZ,pS,pN]);replace O:=O.nx;(try simp only[Nat.reduceAdd]at O);(first|((first|refine Dr O hHeld ?_|refine Dp O hHeld ?_);(try simp only[pA,pZ,pS,pN]);replace O:=O.nx;(try simp only[Nat.reduceAdd]at O);(first|((first|refine Dr O hHeld ?_|refine Dp O hHeld ?_);(try simp only[pA,pZ,pS,pN]);replace O:=O.nx;(try simp only[Nat.reduceAdd]at O);(first|((first|refine Dr O hHeld ?_|refine Dp O hHeld ?_);(try simp only[pA,pZ,pS,pN]);replace O:=O.nx;(try simp only[Nat.reduceAdd]at O);(first|((first|refine Dr O hHeld ?_|refine Dp O hHeld ?_);(try simp only[pA,pZ,pS,pN]);replace O:=O.nx;(try simp only[Nat.reduceAdd]at O);(first|((first|refine Dr O hHeld ?_|refine Dp O hHeld ?_);(try simp only[pA,pZ,pS,pN]);replace O:=O.nx;(try simp only[Nat.reduceAdd]at O);(first|((first|refine Dr O hHeld ?_|refine Dp O hHeld ?_);(try simp only[pA,pZ,pS,pN]);replace O:=O.nx;(try simp only[Nat.reduceAdd]at O);(first|((first|refine Dr O hHeld ?_|refine Dp O hHeld ?_);(try simp only[pA,pZ,pS,pN]);replace O:=O.nx;(try simp only[Nat.reduceAdd]at O);(first|((first|refine Dr O hHeld ?_|refine Dp O hHeld ?_);(try simp only[pA,pZ,pS,pN]);replace O:=O.nx;(try simp only[Nat.reduceAdd]at O);(first|((first|refine Dr O hHeld ?_|refine Dp O hHeld ?_);(try simp only[pA,pZ,pS,pN]);replace O:=O.nx;(try simp only[Nat.reduceAdd]at O);(first|((first|refine Dr O hHeld ?_|refine Dp O hHeld ?_);(try simp only[pA,pZ,pS,pN]);replace O:=O.nx;(try simp only[Nat.reduceAdd]at O);(first|((first|refine Dr O hHeld ?_|refine Dp O hHeld ?_);(try simp only[pA,pZ,pS,pN]);replace O:=O.nx;(try simp only[Nat.reduceAdd]at O);(first|((first|refine Dr O hHeld ?_|refine Dp O hHeld ?_);(try simp only[pA,pZ,pS,pN]);replace O:=O.nx;(try simp only[Nat.reduceAdd]at O);(first|((first|refine Dr O hHeld ?_|refine Dp O hHeld ?_);(try simp only[pA,pZ,pS,pN]);replace O:=O.nx;(try simp only[Nat.reduceAdd]at O);(first|((first|refine Dr O hHeld ?_|refine Dp O hHeld ?_);(try simp only[pA,pZ,pS,pN]);replace O:=O.nx;(try simp only[Nat.reduceAdd]at O);(first|((first|refine Dr O hHeld ?_|refine Dp O hHeld ?_);(try simp only[pA,pZ,pS,pN]);replace O:=O.nx;(try simp only[Nat.reduceAdd]at O);(first|((first|refine Dr O hHeld ?_|refine Dp O hHeld ?_);(try simp only[pA,pZ,pS,pN]);replace O:=O.nx;(try simp only[Nat.reduceAdd]at O);(first|((first|refine Dr O hHeld ?_|refine Dp O hHeld ?_);(try simp only[pA,pZ,pS,pN]);replace O:=O.nx;(try simp only[Nat.reduceAdd]at O);(first|((first|refine Dr O hHeld ?_|refine Dp O hHeld ?_);(try simp only[pA,pZ,pS,pN]);replace O:=O.nx;(try simp only[Nat.reduceAdd]at O);(first|((first|refine Dr O hHeld ?_|refine Dp O hHeld ?_);(try simp only[pA,pZ,pS,pN]);replace O:=O.nx;(try simp only[Nat.reduceAdd]at O);(first|((first|refine Dr O hHeld ?_|refine Dp O hHeld ?_);(try simp only[pA,pZ,pS,pN]);replace O:=O.nx;(try simp only[Nat.reduceAdd]at O);(first|((first|refine Dr O hHeld ?_|refine Dp O hHeld ?_);(try simp only[pA,pZ,pS,pN]);replace O:=O.nx;(try simp only[Nat.reduceAdd]at O);(first|((first|refine Dr O hHeld ?_|refine Dp O hHeld ?_);(try simp only[pA,pZ,pS,pN]);replace O:=O.nx;(try simp only[Nat.reduceAdd]at O);(first|((first|refine Dr O hHeld ?_|refine Dp O hHeld ?_);(try simp only[pA,pZ,pS,pN]);replace O:=O.nx;(try simp only[Nat.reduceAdd]at O);(first|((first|refine Dr O hHeld ?_|refine Dp O hHeld ?_);(try simp only[pA,pZ,pS,pN]);replace O:=O.nx;(try simp only[Nat.reduceAdd]at O);(first|((first|refine Dr O hHeld ?_|refine Dp O hHeld ?_);(try simp only[pA,pZ,pS,pN]);replace O:=O.nx;(try simp only[Nat.reduceAdd]at O);(first|((first|refine Dr O hHeld ?_|refine Dp O hHeld ?_);(try simp only[pA,pZ,pS,pN]);replace O:=O.nx;(try simp only[Nat.reduceAdd]at O);(first|((first|refine Dr O hHeld ?_|refine Dp O hHeld ?_);(try simp only[pA,pZ,pS,pN]);replace O:=O.nx;(try simp only[Nat.reduceAdd]at O);(first|((first|refine Dr O hHeld ?_|refine Dp O hHeld ?_);(try simp only[pA,pZ,pS,pN]);replace O:=O.nx;(try simp only[Nat.reduceAdd]at O))|skip))|skip))|skip))|skip))|skip))|skip))|skip))|skip))|skip))|skip))|skip))|skip))|skip))|skip))|skip))|skip))|skip))|skip))|skip))|skip))|skip))|skip))|skip))|skip))|skip))|skip))|skip))|skip))|skip))|skip))|skip))|skip))|skip))|skip))|skip))|skip);exact Y.o):P:=h trivial k
structure Bd where
 var:ByteArray
 val:V
def Bd.R(_:World)(r:List Value)(x:Bd):Prop:=r=[.string x.var,.int .i64 x.val.kind,.int .i64 x.val.num,.string x.val.av]
abbrev Fw(q:Option Nat)(w:World)(a:Option Addr)(xs:List Bd):Prop:=Bq Bd.R q 367 4 w a xs
def Fw.J{q w w' a xs}(h:Fw q w a xs)(b:Bw w w'):Fw q w' a xs:=Bq.J h (λ_ _ _ h=>h) b
def Fw.bare{q w a xs}(h:Fw q w a xs):Fw none w a xs:=Bq.aK h (λb _=>Qb.bare _ _ b) (λ_ _ _ h=>h)
def Fw.get{q w a xs i x}(h:Fw q w a xs)(g:xs[i]?=some x):∃b o,a=some ⟨b,o,none⟩/\Qb q w 367 b/\At w b (o+i*4) (.string x.var)/\At w b (o+i*4+1) (I6 x.val.kind)/\At w b (o+i*4+2) (I6 x.val.num)/\At w b (o+i*4+3) (.string x.val.av):=by
 obtain⟨b,o,r,f,d,j,c,e⟩:=h i x g;subst e;exact⟨b,o,f,d,c 0 _ rfl,c 1 _ rfl,c 2 _ rfl,c 3 _ rfl⟩
def Bd.le(N:Nat)(x:Bd):Prop:=x.var.size<=N/\x.val.av.size<=N
def CU(bs:List Bd)(s:ByteArray):Option V:=
 match bs with
 |[]=>none
 |b::r=>if b.var=s then some b.val else CU r s
def MY(b r s):CU (b::r) s=if b.var=s then some b.val else CU r s:=rfl
def Nb:V:=(0,0,⟨#[]⟩)
def Df(out:List Bd)(t:Tm)(v:V):Option (List Bd):=
 if t.kind=1 then(if v=t.val then some out else none)
 else if t.kind=2 then(match CU out t.var with|some old=>if old=v then some out else none|none=>some (out++[⟨t.var,v⟩]))
 else if t.kind=3 then(if A2 t.op v (if t.var=⟨#[]⟩ then t.val else(CU out t.var).getD Nb)=true then some out else none)
 else some out
def DZ:List Bd->List Tm->List V->Option (List Bd)
 |out,[],_=>some out
 |out,_::_,[]=>some out
 |out,t::ts,v::vs=>(match Df out t v with|some o=>DZ o ts vs|none=>none)
def Bk(p:Pt)(f:F)(bs:List Bd):Option (List Bd):=if p.ak=f.ak/\p.aa.length=f.ad.length then DZ bs p.aa f.ad else none
def Sg(out:List Bd)(t:Tm)(ts:List Tm)(v:V)(vs:List V):DZ out (t::ts) (v::vs)=(match Df out t v with|some o=>DZ o ts vs|none=>none):=rfl
def z7{out o t ts v vs}(h:Df out t v=some o):DZ out (t::ts) (v::vs)=DZ o ts vs:=by rw[Sg,h]
def xi{out t ts v vs}(h:Df out t v=none):DZ out (t::ts) (v::vs)=none:=by rw[Sg,h]
def Tc(h:P:=by injection h with h;subst h;omega):=h
def tL{out o t v}(h:Df out t v=some o):o.length<=out.length+1:=by
 unfold Df at h;split at h
 .split at h
  .exact Tc
  cases h
 split at h
 .split at h
  .split at h
   .exact Tc
   cases h
  injection h with h;subst h;simp
 split at h
 .by_cases a:A2 t.op v (if t.var=⟨#[]⟩ then t.val else(CU out t.var).getD Nb)=true
  .rw[if_pos a]at h;exact Tc
  rw[if_neg a]at h;cases h
 exact Tc
structure Pm where
 al:List Int
 binds:List Bd
def Db(p:Pt)(x:Pm):List F->List Pm
 |[]=>[]
 |f::r=>(match Bk p f x.binds with|some bs=>[⟨x.al++[f.tag],bs⟩]|none=>[])++Db p x r
def Gy(p:Pt)(fs:List F)(x:Pm):List Pm:=if p.neg=true then(if(Db p x fs).length=0 then [x] else []) else Db p x fs
def Ci(p:Pt)(fs:List F)(xs:List Pm):List Pm:=xs.flatMap (Gy p fs)
def AS:List Pt->List F->List Pm->Nat->List Pm × Nat
 |[],_,xs,n=>(xs,n)
 |p::ps,fs,xs,n=>AS ps fs (Ci p fs xs) (n+(Ci p fs xs).length)
def PM(p:Pt)(x:Pm)(f:F):∀l:List F,Db p x (l++[f])=Db p x l++(match Bk p f x.binds with|some a=>[⟨x.al++[f.tag],a⟩]|none=>[])
 |[]=>by simp[Db]
 |g::r=>by
  simp only[Ye,Db]
  rw[PM p x f r,Yc]
def Se(p x):∀l:List F,(Db p x l).length<=l.length
 |[]=>yX _
 |f::r=>by
  have:=Se p x r
  simp only[Db,yR,yH]
  split<;>simp<;>omega
def wl(p fs x):(Gy p fs x).length<=fs.length+1:=by
 have:=Se p x fs;unfold Gy;split
 .split<;>simp
 omega
def nJ(h:P:=by
 cases k1:(v.kind==0)<;>cases k2:(o.kind==0)
 all_goals
  go_enter func239,ntmps239;go_wp2
 all_goals go_ret
 all_goals exact⟨AE (by simp[A2,Mn, *]),Ax⟩
 ):=h
def Tg(h:P:=by
 cases k1:(v.kind==0)<;>cases k2:(o.kind==0)
 all_goals
  go_enter func239,ntmps239;go_wp2
 all_goals go_ret
 all_goals exact⟨AE (by simp[A2,Iq, *]),Ax⟩
 ):=h
def SR(v o a w) :
  Ca 239 #[I6 a,.agg #[I6 v.kind,I6 v.num,.string v.av],.agg #[I6 o.kind,I6 o.num,.string o.av]] w λe w'=>
   e=.returned (.bool (A2 a v o))/\Bw w w':=by
 by_cases i:a=1
 .subst i;exact nJ
 by_cases d:a=2
 .subst d;exact nJ
 by_cases c:a=3
 .subst c;exact Tg
 by_cases f:a=4
 .subst f;exact Tg
 by_cases b:a=5
 .subst b;exact Tg
 by_cases g:a=6
 .subst g;exact Tg
 cases k1:(v.kind==0)<;>cases k2:(o.kind==0)
 all_goals
  go_enter func239,ntmps239;go_wp2
 all_goals go_ret
 all_goals exact⟨AE (by simp[A2, *]),Ax⟩
def mS{α}(f):∀(l:List α)(k:Nat),Di f l k=none->∀x∈l,f x=true
 |[],_,_,x,a=>by simp at a
 |y::r,k,h,x,a=>by
  unfold Di at h
  cases b:f y
  .rw[b]at h
   simp at h
  rw[b]at h
  simp only[if_true]at h
  rcases yO.1 a with rfl|a
  .exact b
  exact mS f r (k+1) h x a
def lA{r}(h:An r=none):r.af.length<=6/\∀p∈r.af,Dc p=true:=by
 unfold An at h;split at h
 .rename_i a;simp only[IQ,yk,decide_eq_true_eq]at a;refine⟨a.2.1,?_⟩;cases b:Di Dc r.af 1 with
  |some i=>rw[b]at h;cases h
  |none=>exact mS Dc r.af 1 b
 cases h
def zoS{a r}(h:(Br a r).1=0):An r=none/\Ad r.af<=3:=by
 unfold Br at h;cases b:An r with
 |some i=>rw[b]at h;simp at h
 |none=>
  refine⟨rfl,?_⟩;rw[b]at h;simp only at h;split at h
  .simp at h
  split at h
  .rename_i c;exact c.2
  simp at h
def kK:∀(l b:List Ru)(k:Nat),(FT b l k).1=0->∀r∈l,An r=none/\Ad r.af<=3
 |[],_,_,_,r,a=>by simp at a
 |q::s,b,k,h,r,a=>by
  unfold FT at h
  split at h
  .rename_i O
   rcases yO.1 a with rfl|a
   .exact zoS O
   exact kK s _ _ h r a
  rename_i O
  exact absurd h O
def Sb{rs}(h:(Bh rs).1=0):rs.length<=16/\∀r∈rs,An r=none/\Ad r.af<=3:=by
 unfold Bh at h;split at h
 .rename_i hl;exact⟨hl,kK rs [] 0 h⟩
 simp at h
def Qf{rs}(h:(Bh rs).1=0){r}(a:r∈rs):r.af.length<=6/\(∀p∈r.af,p.aa.length<=6)/\Ad r.af<=3:=by
 obtain⟨e,c⟩:=(Sb h).2 r a;obtain⟨b,d⟩:=lA e;refine⟨b,λp f=>?_,c⟩;have:=d p f;simp only[Dc,yk,decide_eq_true_eq]at this;exact this.2.1
end Go.Proofs.YtikojfajahnhgaaGreat
