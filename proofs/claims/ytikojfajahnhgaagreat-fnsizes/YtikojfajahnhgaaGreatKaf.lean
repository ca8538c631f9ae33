import Derived.Test.YtikojfajahnhgaaGreatKae
set_option linter.all false
namespace Go.Proofs.YtikojfajahnhgaaGreat
attribute [local simp] At I6 Pn mzI
attribute [local go_sem] At I6 Pn
open Go.RowKit Go.Proofs.Tryz
def zkj{P}(w k s ty f b o g q d O r m cs)(hu:P.underlying k=some (.slice f))(n:(P.info? f).map (·.size)=some m)(l:cs.length=Nat.min O g*m)(c:d=none->O=0)(z:∀a,d=some a->∀j v,cs[j]?=some v->w.cell? (a.add j)=some v)(hc:∀j,j<cs.length->(w.cell? ⟨b,o+j,none⟩).isSome=true)(y:∀j,j<cs.length->w.frozen? ⟨b,o+j,none⟩=false)(t:∀v∈cs,v.oneCell'=true) :
  (Builtin.copy_ #[k,s] ty #[.slice (some ⟨b,o,none⟩) g q,.slice d O r]).run P w=.ok (goInt (Nat.min O g)) (w.setCells b o cs):=by
 have A:=run_storeCells_cells (P:=P) b o cs 0 w Nx (by simpa using y) t;cases e:P.info? f with
 |none=>simp[e]at n
 |some i=>
  have u:i.size=m:=by simpa[e] using n
  cases d with
  |none=>
   have x:=c rfl;subst x;have p:cs=[]:=Yw (by simpa using l);subst p;simp[Builtin.copy_,run_underlying hu,Builtin.lenOf,Builtin.firstCells,sizeOf,typeInfo,e,storeCells,World.setCells]
  |some a=>
   have hl:=run_loadCells_list (P:=P) w a cs (z a rfl);simp[Builtin.copy_,run_underlying hu,Builtin.lenOf,Builtin.firstCells,sizeOf,typeInfo,e,u,<-l,hl,A]
structure Turned(w w':World) (b:Nat):Prop where
 os:w'.os=w.os
 tape:w'.tape=w.tape
 output:w'.output=w.output
 size:w'.heap.size=w.heap.size
 block:∀k,k≠b->w'.heap[k]?=w.heap[k]?
def Turned.setCells:∀(vs:List Value)(o:Nat)(w:World)(b:Nat),Turned w (w.setCells b o vs) b
 |[],_,_,_=>⟨rfl,rfl,rfl,rfl,λ_ _=>rfl⟩
 |v::r,o,w,b=>by
  have h:=Turned.setCells r (o+1) (w.setCell ⟨b,o,none⟩ v) b
  exact⟨h.os,h.tape,h.output,h.size.c (by simp[World.setCell]),λk a=>(h.block k a).c (yE _ _ _ _ a)⟩
def Turned.d{w w' b B}(h:Turned w w' b)(a:B<=b):Below B w w':=
 ⟨h.os,h.tape,h.output,WK h.size.y,λk c=>h.block k qd⟩
def Turned.cell{w w' b}(h:Turned w w' b){p}(a:p.block≠b):w'.cell? p=w.cell? p:=yR (w:=w) (h.block _ a)
def Zg{w:World}{g o c t a}(h:w.heap[g]?=some (.cells c t a))(vs)(d:o+vs.length<=c.size) :
  (w.setCells g o vs).heap[g]?=some (.cells (c.toList.take o++(vs++c.toList.drop (o+vs.length))).toArray t a):=by
 obtain⟨m,k,l,j,b⟩:=Zc vs o w g c t a h;rw[k];congr 2;apply Array.ext';apply YA;intro i;rw[Yh];by_cases e:i<o
 .rw[b i (Or.inl e)];simp only[Kv,Yt,Wu,YC];rw[if_pos qd,if_pos e,Yh]
 by_cases hj:i<o+vs.length
 .have f:vs[i-o]?=some (vs[i-o]'(by omega)):=yH _;have:=j (i-o) _ f qd;rw[show o+(i-o)=i by omega]at this;rw[this];simp only[Kv,Yt,Wu];rw[if_neg qd,if_pos qd,show i-min o c.size=i-o by omega,f]
 rw[b i (Or.inr qd)];simp only[Kv,Yt,Wu,WW];rw[if_neg qd,if_neg qd,show o+vs.length+(i-min o c.size-vs.length)=i by omega,Yh]
def Xc{w:World}{b c t}(h:w.heap[b]?=some (.cells c t (0,0))){o n}(a:o+n<=c.size):w.there b o n:=λj hj=>by
 have O:o+j<c.size:=qd;simp[World.cell?,World.frozen?,h,O]
def JS{w:World}{b c t a}(h:w.heap[b]?=some (.cells c.toArray t a)):w.rangeAt b 0 c:=λj v hv=>by
 simp[World.cell?,h,hv]
def C7{P ops rest d a w Q}(O:d.guard=none)(ty x y)(j:d.op=.store ty x y)(b)(L:List Value)(g:a.eval x=Pn b)(i:a.eval y=.agg L.toArray)(c t)(e:w.heap[b]?=some (.cells c t (0,0)))(k:c.size=L.length)(hi:(P.info? ty).map (·.size)=some L.length)(f:∀v∈L,v.oneCell'=true)(h:∀w',Hid (w'.heap[b]?=some (.cells L.toArray t (0,0)))->Hid (Turned w w' b)->wpList P ops Q rest (a.put d.dst undef) w'):wpList P ops Q (d::rest) a w:=by
 refine wpList_store_mid O ty x y j b 0 L.toArray g i (Xc e qf) OX (all_oneCell_toArray f) (h _ ?_ (Turned.setCells _ _ _ _));show _=_;have:=Zg e (o:=0) L qd;rw[this];simp[yy (show c.toList.length<=L.length by simp;omega)]
def X7{P ops rest c a w Q}(O:c.guard=none)(ty x)(j:c.op=.load ty x)(b)(L:List Value)(i:a.eval x=Pn b)(t g)(e:w.heap[b]?=some (.cells L.toArray t g))(d)(hu:P.underlying ty=some d)(hd:d.isRow=true)(f:(P.info? ty).map (·.size)=some L.length)(h:wpList P ops Q rest (a.put c.dst (.agg L.toArray)) w):wpList P ops Q (c::rest) a w:=
 wpList_load_mid O ty x j b 0 i L d (JS e) hu hd f h
def nF{P w ops o a K Q E}(H:o.guard=none)(d s k p)(G:o.op=.call { callee:=.builtin .copy,args:=#[d,s],argTypes:=#[k,p] })(l m)(hu:P.underlying k=some (.slice l))(D:(P.info? l).map (·.size)=some m)(b off i q g O r)(hd:a.eval d=.slice (some ⟨b,off,none⟩) i q)(z:a.eval s=.slice g O r)(c t)(n:w.heap[b]?=some (.cells c t (0,0)))(cs)(B:cs.length=Nat.min O i*m)(f:g=none->O=0)(y:∀a,g=some a->∀j v,cs[j]?=some v->w.cell? (a.add j)=some v)(e:off+cs.length<=c.size)(C:∀v∈cs,v.oneCell'=true)(h:∀w',Hid (w'.heap[b]?=some (.cells (c.toList.take off++(cs++c.toList.drop (off+cs.length))).toArray t (0,0)))->Hid (Turned w w' b)->K (a.put o.dst (goInt (Nat.min O i))) w') :
  if Region.wanted o (yielded ops a.tmps)=true then Oper.wp P o a w K Q else E:=by
 have A:Region.wanted o (yielded ops a.tmps)=true:=by simp[Region.wanted,H]
 rw[if_pos A];have u:=Xc n e;have x:=zkj (P:=P) w k p o.type l b off i q g O r m cs hu D B f y (λj hj=>(u j hj).1) (λj hj=>(u j hj).2) C;unfold Oper.wp;simp[execOp,G,resolve,invoke,builtin,hd,z,x,Result.andThen];exact h _ (Zg n cs e) (Turned.setCells _ _ _ _)
def ze1{P w}(base t ty e i size)(d:P.underlying t=some (.slice e))(b:P.info? e=some i)(v n xs)(a:w.ownsRow base e size v n xs)(c) :
  (Builtin.append_ #[t,t] ty #[v,.slice none 0 c]).run P w=.ok v w:=by
 rcases a.2 with⟨rfl,rfl⟩|⟨g,cap,f,rfl,_,_,O,_⟩
 .simp[Builtin.append_,run_underlying d,sizeOf,typeInfo,b,Builtin.lenOf,Builtin.firstCells]
 simp[Builtin.append_,run_underlying d,sizeOf,typeInfo,b,Builtin.lenOf,Builtin.firstCells,O,storeCells]
def ziA{P}(w base t ty e z size bytes)(y:P.underlying t=some (.slice e))(hinfo:(P.info? e).map (λi=>(i.zero,i.size,i.bytes))=some (some z,size,bytes))(o:z.cells.size=size)(r:0<size)(v n xs)(b:w.ownsRow base e size v n xs)(l m c news)(hl:news.length=m*size)(k:l=none->m=0)(hnews:∀a,l=some a->∀j u,news[j]?=some u->w.cell? (a.add j)=some u)(I:∀u∈news,u.oneCell'=true)(q:n+m<=maxLen)(hbytes:(n+m)*bytes<=140737488355328)(hbase:base<=w.heap.size) :
  ∃ f d w',(Builtin.append_ #[t,t] ty #[v,.slice l m c]).run P w=.ok (.slice f (n+m) d) w'/\w'.ownsRow base e size (.slice f (n+m) d) (n+m) (xs ++ news)/\w.grownBy w' v.ownBlock /\
   ((Value.slice f (n+m) d).ownBlock=v.ownBlock∨(Value.slice f (n+m) d).ownBlock=some w.heap.size):=by
 obtain⟨i,s,H,G,A⟩:=info_parts hinfo;cases l with
 |none=>
  obtain rfl:=k rfl;have p:=ze1 (P:=P) (w:=w) base t ty e i size y s v n xs b c;have J:news=[]:=Yw Lu;subst J;have O:∃f d,v=.slice f n d:=by
   rcases b.2 with⟨rfl,rfl⟩|⟨g,cap,K,rfl,_⟩
   .exact⟨none,0,rfl⟩
   exact⟨_,_,rfl⟩
  obtain⟨f,d,rfl⟩:=O;exact⟨f,d,w,p,by simpa using b,⟨rfl,rfl,rfl,yu _,λ_ _ _=>rfl⟩,.inl rfl⟩
 |some a=>
  obtain⟨D,w',p,x,B,_,E⟩:=run_append_own_at (P:=P) w base t ty e i z size bytes y s H G A o r v n xs b a m c news hl (hnews a rfl) I q hbytes hbase;have O:∃f d,D=.slice f (n+m) d:=by
   rcases x.2 with⟨rfl,C⟩|⟨g,cap,K,rfl,_⟩
   .exact⟨none,0,by rw[C]⟩
   exact⟨_,_,rfl⟩
  obtain⟨f,d,rfl⟩:=O;exact⟨f,d,w',p,x,B,E⟩
def Za{P w}{o:Oper}{a K Q}(s x t)(O:o.op=.call { callee:=.builtin .append,args:=#[s,x],argTypes:=#[t,t] })(base e z size bytes)(D:P.underlying t=some (.slice e))(hinfo:(P.info? e).map (λi=>(i.zero,i.size,i.bytes))=some (some z,size,bytes))(l:z.cells.size=size)(q:0<size)(v n xs)(G:a.eval s=v)(g:w.ownsRow base e size v n xs)(k m c)(A:a.eval x=.slice k m c)(news)(hl:news.length=m*size)(f:k=none->m=0)(hnews:∀a,k=some a->∀j u,news[j]?=some u->w.cell? (a.add j)=some u)(E:∀u∈news,u.oneCell'=true)(p:n+m<=maxLen)(hbytes:(n+m)*bytes<=140737488355328)(hbase:base<=w.heap.size)(h:∀d b w',Hid (w'.ownsRow base e size (.slice d (n+m) b) (n+m) (xs++news))->Hid (w.grownBy w' v.ownBlock)->Hid ((Value.slice d (n+m) b).ownBlock=v.ownBlock∨(Value.slice d (n+m) b).ownBlock=some w.heap.size)->K (a.put o.dst (.slice d (n+m) b)) w'):o.wp P a w K Q:=by
 obtain⟨d,b,w',B,C,y,r⟩:=ziA (P:=P) w base t o.type e z size bytes D hinfo l q v n xs g k m c news hl f hnews E p hbytes hbase;unfold Oper.wp execOp;simp only[O,resolve,invoke,builtin,TJ,Sem.run_pure,Ke,List.map_toArray,yq,YB,G,A,B];exact h d b w' C y r
def CN{P w ops rest o a Q}(O:o.guard=none)(s x t)(C:o.op=.call { callee:=.builtin .append,args:=#[s,x],argTypes:=#[t,t] })(base e z size bytes)(D:P.underlying t=some (.slice e))(hinfo:(P.info? e).map (λi=>(i.zero,i.size,i.bytes))=some (some z,size,bytes))(l:z.cells.size=size)(q:0<size)(v n xs)(G:a.eval s=v)(g:w.ownsRow base e size v n xs)(k m c)(A:a.eval x=.slice k m c)(news)(hl:news.length=m*size)(f:k=none->m=0)(hnews:∀a,k=some a->∀j u,news[j]?=some u->w.cell? (a.add j)=some u)(E:∀u∈news,u.oneCell'=true)(p:n+m<=maxLen)(hbytes:(n+m)*bytes<=140737488355328)(hbase:base<=w.heap.size)(h:∀d b w',Hid (w'.ownsRow base e size (.slice d (n+m) b) (n+m) (xs++news))->Hid (w.grownBy w' v.ownBlock)->Hid ((Value.slice d (n+m) b).ownBlock=v.ownBlock∨(Value.slice d (n+m) b).ownBlock=some w.heap.size)->wpList P ops Q rest (a.put o.dst (.slice d (n+m) b)) w'):wpList P ops Q (o::rest) a w:=
 wpList_plain O λ_ H=>Za s x t C base e z size bytes D hinfo l q v n xs G g k m c A news hl f hnews E p hbytes hbase λd b w' B y r=>H _ _ (h d b w' B y r)
def Hd{P w ops o a K Q E}(O:o.guard=none)(s x t)(A:o.op=.call { callee:=.builtin .append,args:=#[s,x],argTypes:=#[t,t] })(base e z size bytes)(B:P.underlying t=some (.slice e))(hinfo:(P.info? e).map (λi=>(i.zero,i.size,i.bytes))=some (some z,size,bytes))(l:z.cells.size=size)(q:0<size)(v n xs)(D:a.eval s=v)(d:w.ownsRow base e size v n xs)(f m c)(r:a.eval x=.slice f m c)(news)(hl:news.length=m*size)(b:f=none->m=0)(hnews:∀a,f=some a->∀j u,news[j]?=some u->w.cell? (a.add j)=some u)(C:∀u∈news,u.oneCell'=true)(p:n+m<=maxLen)(hbytes:(n+m)*bytes<=140737488355328)(hbase:base<=w.heap.size)(h:∀k g w',Hid (w'.ownsRow base e size (.slice k (n+m) g) (n+m) (xs++news))->Hid (w.grownBy w' v.ownBlock)->Hid ((Value.slice k (n+m) g).ownBlock=v.ownBlock∨(Value.slice k (n+m) g).ownBlock=some w.heap.size)->K (a.put o.dst (.slice k (n+m) g)) w') :
  if Region.wanted o (yielded ops a.tmps)=true then Oper.wp P o a w K Q else E:=by
 have y:Region.wanted o (yielded ops a.tmps)=true:=by simp[Region.wanted,O]
 rw[if_pos y];exact Za s x t A base e z size bytes B hinfo l q v n xs D d f m c r news hl b hnews C p hbytes hbase h
def Bv{w w':World}{base e size v n xs}(h:w.ownsRow base e size v n xs)(f:∀g,v.ownBlock=some g->w'.heap[g]?=w.heap[g]?):w'.ownsRow base e size v n xs:=by
 refine⟨h.1,?_⟩;rcases h.2 with h|⟨g,cap,O,rfl,a,d,b⟩
 .exact .inl h
 exact .inr ⟨g,cap,O,rfl,a,(f g rfl).c d,b⟩
def CA{w:World}{base base' e size v n xs}(h:w.ownsRow base e size v n xs)(c:base'<=base):w.ownsRow base' e size v n xs:=by
 refine⟨h.1,?_⟩;rcases h.2 with h|⟨g,cap,O,rfl,b,a⟩
 .exact .inl h
 exact .inr ⟨g,cap,O,rfl,qd,a⟩
def BM{w:World}{base e size a n c xs}(h:w.ownsRow base e size (.slice a n c) n xs){j x}(b:xs[j]?=some x):∃g,a=some ⟨g,0,none⟩/\base<=g/\At w g j x/\w.frozen? ⟨g,j,none⟩=false:=by
 have hj:j<xs.length:=(ye.1 b).1;rcases h.2 with⟨_,i⟩|⟨g,cap,O,d,l,f,m,o,p,k⟩
 .have:=h.1;subst i;simp at this;subst this;simp at hj
 simp only[YX]at d;obtain⟨rfl,_,_⟩:=d;refine⟨g,rfl,l,?_,by simp[World.frozen?,f]⟩;rw[<-k,YC]at b;split at b
 .simp[World.cell?,f];simpa using b
 cases b
def BI(x y:Value):Prop:=∀g,x.ownBlock=some g->y.ownBlock≠some g
def Bq.owns{w g t m N base rs}(h:Bq w g t m N rs)(G:base<=g)(v:rs.length=N)(A:N<=maxLen):w.ownsRow base t m (.slice (some ⟨g,0,none⟩) N N) N rs.flatten:=by
 obtain⟨c,C,I,_,n⟩:=h;have H:rs.flatten.length=N*m:=by
  rw[List.length_flatten];have:∀(l:List (List Value)),(∀r∈l,r.length=m)->(l.map List.length).sum=l.length*m:=by
   intro l
   induction l with
   |nil=>intro _;simp
   |cons r l ih=>
    intro b;rw[yq,YU,ih (λx q=>b x (by simp[q])),b r qe,yI,Kb];omega
  rw[this rs (λr b=>by
   obtain⟨i,f,rfl⟩:=Wc b;exact(n i _ (yH f)).1),v]
 refine⟨H,.inr ⟨g,N,c,rfl,G,C,yu _,A,I,?_⟩⟩;rw[yT qf];apply YA;intro j;by_cases hj:j<N*m
 .have O:0<m:=by
   rcases Nat.eq_zero_or_pos m with o|o
   .subst o;simp at hj
   exact o
  have f:j/m<rs.length:=by rw[v];exact Nat.div_lt_of_lt_mul (by rw[Nat.mul_comm];exact hj)
  obtain⟨b,J⟩:=n (j/m) _ (yH f);have z:j%m<rs[j/m].length:=by rw[b];exact Wz _ O
  have s:=J (j%m) _ (yH z);rw[Nat.div_add_mod' j m]at s;rw[Yh,s];have key:∀(l:List (List Value))(k:Nat),(∀r∈l,r.length=m)->∀(d:k/m<l.length)(D:k%m<(l[k/m]).length),l.flatten[k]?=some ((l[k/m])[k%m]):=by
   intro l
   induction l with
   |nil=>intro k _ d;simp at d
   |cons r l ih=>
    intro k a d D;have E:r.length=m:=a r qe;rw[List.flatten_cons];by_cases u:k<m
    .have e:k/m=0:=Nat.div_eq_of_lt u;have p:k%m=k:=Nat.mod_eq_of_lt u;rw[yr qd];simp only[e,p,List.getElem_cons_zero];rw[yH qd]
    have e:k/m=(k-m)/m+1:=by
     have:=Nat.add_div_right (k-m) O;rw[Nat.sub_add_cancel qd]at this;exact this
    have p:k%m=(k-m)%m:=by
     have:=Nat.add_mod_right (k-m) m;rw[Nat.sub_add_cancel qd]at this;exact this
    rw[yx qd,E];have K:(k-m)/m<l.length:=by
     rw[e]at d;simpa using d
    have:=ih (k-m) (λx q=>a x (by simp[q])) K (by rw[a _ (by simp[YI])];exact Wz _ O);rw[this];simp only[e,p,List.getElem_cons_succ]
  exact(key rs j (λr b=>by
   obtain⟨i,B,rfl⟩:=Wc b;exact(n i _ (yH B)).1) f z).y
 rw[Yi qf,Yi qd]
end Go.Proofs.YtikojfajahnhgaaGreat
