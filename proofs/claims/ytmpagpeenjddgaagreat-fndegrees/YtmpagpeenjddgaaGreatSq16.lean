import Derived.Test.YtmpagpeenjddgaaGreatSq11
set_option maxHeartbeats 9999999
set_option maxRecDepth 99999
set_option linter.all false
namespace Go.Proofs.YtmpagpeenjddgaaGreat
open Go.RowKit Fo
variable{a:Act}{K:Act->World->Prop}{ops:Array Oper}{cs:Array Value}{key:ByteArray}{Q:Exit->Act->World->Prop}{l l':List (ByteArray×ByteArray)}{rj:List (Int×Int)}{B S gr t:Nat}{o:Oper}{P:Program}{A:SA}{α:Type}{u:Value}{w w' wr:World}{f g:fZ}
structure CtS(f:fZ):Prop where
 ic:IC f
 br:f.r.length<=16
 ai:∀b d,f.n b=some d->d.2.length<=10
 m:∀i,0<=co f i/\co f i<=65535
theorem CtS.k(h:CtS f):∀x,cu f x<=1000000:=h.ic.counts h.br h.ai
theorem qT(h:CtS f)(w:World)(S:Nat)(A:SA)(j:Sp w S A f):
  Calls Tryz.prog 73 #[pT S 0] w fun r w'=>r=.returned (iV (fR f.c f.m))/\Bl w w':=by
 have J:=h.ic.n8;have I:=h.ic.al;have o:=h.ic.len;obtain⟨_,_,_,_,_,M,_⟩:=j.cells;have n:=j.drew;have y:Hid (Calls Tryz.prog 24 #[pT S 0] w.drew fun r w1=>∃a c,r=.returned (.slice a f.c.length c)/\y64.Sl w1 (.slice a f.c.length c) f.c/\Bl w w1):=by
  refine(iL h.ic h.k h.ai w.drew S A n (by have:=h.br;omega)).mono ?_;rintro r w1 ⟨u,rfl,q,K⟩;obtain⟨a,c,rfl⟩:=q.sl.len;exact⟨a,c,rfl,q.sl,(bQ _ w).drew.trans K⟩
 obtain⟨e,g,d,m,_,_,_⟩:=nI j.v.m (by omega);have k:=aA j;have v:Hid (∀x,0<=cu f x/\cu f x<=1000000):=fun x=>⟨h.ic.bb.pos x,h.k x⟩;have z:=aA h.m;rw[m]at M;have l:=aA m;have D:Hid (fR f.c f.m=((frI f.c f.m f.c.length f.c.length).length:Int)):=by
  show fR _ _=_
  unfold fR frI;rw[List.length_map]
 have E:=aA o;clear o m n;go_enter Tryz.func73,Tryz.ntmps73;go_wp2;go_region_held3 (fun W=>W.cell? (aD S 5)=some (sL e g f.m.length d)) (first | assumption | go_keep)
  ((first
   | (go_at_call 24;refine y.out.mono ?_;rintro r w1 ⟨F,G,rfl,H,b⟩;have C:w1.cell? (aD S 5)=some (sL e g f.m.length d):=(by rw[<-l.out];exact(k.out.below b).cells.2.2.2.2.2.1))
   | (go_at_call 65;refine(sT F (some ⟨e,g,none⟩) G d f.c f.m w1 (H.c3 fun i=>by have:=v.out i;unfold cu at this;omega) ((by rw[<-l.out];exact(k.out.below b).v.m:y64.Sl w1 (sL e g f.m.length d) f.m).c3 fun i=>by have:=z.out i;unfold co at this;omega) E.out I J).mono ?_;rintro r s ⟨u,rfl,L,p⟩;obtain⟨N,O,rfl⟩:=L.shape;have t:s.cell? (aD S 5)=some (sL e g f.m.length d):=(by rw[<-l.out];exact((k.out.below b).below p).cells.2.2.2.2.2.1))))
 have B:Hid (Bl w s):=b.trans (p.mono b.size);clear C t;go_wp2;go_ret;exact⟨by rw[D.out];rfl,B.out⟩
def qI(f:fZ):Bool:=decide (2*fS f.c.length<=fR f.c f.m)
theorem qD(h:CtS f)(w:World)(S:Nat)(A:SA)(a:Sp w S A f):
  Calls Tryz.prog 51 #[pT S 0] w fun r w'=>r=.returned (.bool (qI f))/\Bl w w':=by
 obtain⟨q,_⟩:=a.cells;have p:=h.ic.n8;have o:=h.ic.al;have e:Hid (Calls Tryz.prog 73 #[pT S 0] w.drew fun r w'=>r=.returned (iV (fR f.c f.m))/\Bl w w'):=(qT h w.drew S A a.drew).mono fun r w' c=>⟨c.1,(bQ _ w).drew.trans c.2⟩;have j:=aA fun(w':World)=>qW f.c.length w';have m:0<=fS f.c.length/\fS f.c.length<=1000:=by unfold fS;split<;>omega
 have i:Hid (qI f=decide (2*fS f.c.length<=fR f.c f.m)):=rfl;have g:=aA a;generalize fS f.c.length=d at *;generalize fR f.c f.m=n at *;have l:IntKind.i64.wrap (2*d)=2*d:=IntWalk.i64_in _ ⟨by omega,by omega⟩;go_enter Tryz.func51,Tryz.ntmps51;go_wp2;go_region_held3 (fun W=>W.cell? (aD S 0)=some (iV f.c.length)) (first | assumption | go_keep)
  ((first
   | (go_at_call 73;refine e.out.mono ?_;rintro r w1 ⟨rfl,b⟩;have k:w1.cell? (aD S 0)=some (iV f.c.length):=(g.out.below b).cells.1)
   | (go_at_call 74;refine(j.out _).mono ?_;rintro r s ⟨rfl,rfl⟩)))
 clear k;go_wp2;go_ret;exact⟨by rw[i.out];rfl,b⟩
theorem qL(s x:Operand)(t b:TypeId)
  (e:o.op=.call {callee:=.builtin .append,args:=#[s,x],argTypes:=#[t,b]}) (vs d:Value) (f:a.eval s=vs) (hx:a.eval x=d)
  (c:Value) (w':World) (hr:(Builtin.append_ #[t,b] o.type #[vs,d]).run P w=.ok c w') (h:K (a.put o.dst c) w'):Oper.wp P o a w K Q:=by
 unfold Oper.wp execOp;simp only[e,resolve,invoke,builtin,Sem.run_bind,Sem.run_pure,Result.andThen_ok,List.map_toArray,List.map_cons,List.map_nil,f,hx,hr];exact h
theorem Ely.c8(Y:Ely α){E:Prop}(J:o.guard=none)(s x:Operand)
  (C:o.op=.call {callee:=.builtin .append,args:=#[s,x],argTypes:=#[Y.s,Y.s]})
  {base:Nat} {w:World} {u:Value} {l:List α} (A:Y.Own base w u l) (F:a.eval s=u) (e:α) {cs:Array Value} (hc:cs=(Y.cell e).toArray) (hx:a.eval x=sL w.heap.size 0 1 1) (M:l.length<1000000) (r:base<=w.heap.size)
  (h:∀u' w',Y.Own base w' u' (l++[e])->Below base w w'->Frm (fun k=>base<=k/\∃cs,IsC w k cs Y.t) w w'->K (a.put o.dst u') w'):
  if Region.wanted o (yielded ops a.tmps)=true then Oper.wp Tryz.prog o a (w.alloc (.cells cs Y.t)).drew K Q else E:=by
 rw[if_pos (by simp[Region.wanted,J])];subst hc;have d:=((bQ w.heap.size w).alloc (nR _) (.cells (Y.cell e).toArray Y.t)).drew;have v:Y.Sl (w.alloc (.cells (Y.cell e).toArray Y.t)).drew (sL w.heap.size 0 1 1) [e]:=(Ely.Sl.new w e rfl).below (bQ _ _).drew;have L:=A.below d;obtain⟨z,b,rfl,p,i⟩:=L;obtain⟨u',m,y,c,D,rfl,G,H,t⟩:=Y.append z l b [e] _ _ p v (by simp;omega);have n:w.heap.size<=(w.alloc (.cells (Y.cell e).toArray Y.t)).drew.heap.size:=d.size;have f:Below base w m:=(d.mono r).trans (t.below (lT r n) fun k e=>i k e);have I:Frm (fun k=>base<=k/\∃cs,IsC w k cs Y.t) w m:=by
  refine⟨f.os,f.tape,f.output,f.size,fun k j B=>?_⟩;refine(t.block k (lL j n) fun q=>B ⟨i k q,Y.row (l++b),?_⟩).trans (d.block k j);have:=p.arr k q;unfold IsC at this |-;rw[<-d.block k j];exact this
 refine qL _ _ _ _ C _ _ F hx _ _ (D _) (h _ _ ⟨y,c,by simp,G,fun g e=>?_⟩ f I);rcases H g e with q | q
 ·exact i g q
 ·omega
theorem Ely.cm(Y:Ely α){rest:List Oper}(t:o.guard=none)(s x:Operand)
  (i:o.op=.call {callee:=.builtin .append,args:=#[s,x],argTypes:=#[Y.s,Y.s]})
  {w:World} {ag:Option Nat} {l junk:List α} (d:Y.Rw w ag l junk) (m:a.eval s=.slice (adr ag) l.length (l.length+junk.length)) (e:α) {cs:Array Value} (hc:cs=(Y.cell e).toArray) (hx:a.eval x=sL w.heap.size 0 1 1) (u:l.length<1000000)
  (h:∀a' junk' w',Y.Rw w' a' (l++[e]) junk'->(∀g,a'=some g->ag=some g\/w.heap.size<=g)->Frm (fun k=>ag=some k) w w'->wpList Tryz.prog ops Q rest (a.put o.dst (.slice (adr a') (l++[e]).length ((l++[e]).length+junk'.length))) w'):
  wpList Tryz.prog ops Q (o :: rest) a (w.alloc (.cells cs Y.t)):=by
 subst hc;have b:=(bQ w.heap.size w).alloc (nR _) (.cells (Y.cell e).toArray Y.t);have hF:Frm (fun k=>ag=some k) w (w.alloc (.cells (Y.cell e).toArray Y.t)):=Frm.aa b;have f:=d.ae (Frm.aa (S:=fun _=>False) b) fun _ _=>id;obtain⟨v,c,a',junk',j,rfl,n,p,r⟩:=Y.append ag l junk [e] _ _ f (Ely.Sl.new w e rfl) (by simp;omega);have:=h a' junk' c n (fun g q=>(p g q).imp id fun q=>lT b.size q) (hF.trans r);refine cL t _ _ _ _ i _ _ m hx _ _ (j _) ?_;simpa using this
def aND(p:ByteArray×ByteArray):List Value:=[.string p.1,.string p.2]
def yI:Ely (ByteArray×ByteArray) where
 cell:=aND
 n:=2
 z:=(.empty,.empty)
 zv:=.agg #[.string .empty,.string .empty]
 t:=121
 s:=135
 by':=32
 hn:=fun _=>rfl
 hp:=by omega
 one:=fun a v hv=>by simp only[aND,List.mem_cons,List.not_mem_nil,or_false]at hv;rcases hv with rfl | rfl<;>rfl
 hz:=by kernel_rfl
 us:=Tryz.underlying135
 hb:=by omega
 info:=pJ (by kernel_rfl)
theorem aNO(W:World)(k v:ByteArray):(Instr.build 121 #[(0,.string k),(1,.string v)]).run Tryz.prog W=.ok (.agg #[.string k,.string v]) W:=by kernel_rfl
structure ItR(w:World)(B:Nat)(l:List (ByteArray×ByteArray))(u:Value)(wr:World):Prop where
 own:yI.Own B wr u l
 ae:Frm (fun k=>k=B) w wr
theorem ItR.app{u':Value}(h:ItR w B l u wr)(c:IsC w (B+1) cs 96)(i:w.heap.size=B+2)(g:yI.Own B w' u' l')(hF:Frm (fun k=>B<=k/\∃cs,IsC wr k cs 121) wr w'):ItR w B l' u' w':=by
 refine⟨g,⟨hF.os.trans h.ae.os,hF.tape.trans h.ae.tape,hF.output.trans h.ae.output,lT h.ae.size hF.size,fun k a f=>?_⟩⟩;refine(hF.block k (lL a h.ae.size) fun q=>?_).trans (h.ae.block k a f);obtain⟨j,d,b⟩:=q;have e:k=B+1:=by omega
 rw[e]at b;exact(c.ae h.ae (by omega)).ab b (by decide) rfl
structure InR(w w6:World)(B W5:Nat)(l:List (ByteArray×ByteArray))(u:Value)(wr:World):Prop where
 own:∃a junk,u=.slice (adr a) l.length (l.length+junk.length)/\yI.Rw wr a l junk/\∀g,a=some g->B<=g/\(g<W5\/w6.heap.size<=g)
 ae:Frm (fun k=>k=B) w wr
 sz:w6.heap.size<=wr.heap.size
 bq:∀k,W5<=k->k<w6.heap.size->wr.heap[k]?=w6.heap[k]?
theorem InR.step{w6:World}{W5:Nat}(h:InR w w6 B W5 l u wr)(f:IsC w (B+1) cs 96)(o:w.heap.size=B+2){a:Option Nat}{junk:List (ByteArray×ByteArray)}(h1:yI.Rw wr a l junk)(h2:∀g,a=some g->B<=g/\(g<W5\/w6.heap.size<=g)){a':Option Nat}{junk':List (ByteArray×ByteArray)}(j:yI.Rw w' a' l' junk')(k2:∀g,a'=some g->a=some g\/wr.heap.size<=g)(b:Frm (fun k=>a=some k) wr w')(n:B<=wr.heap.size):InR w w6 B W5 l' (.slice (adr a') l'.length (l'.length+junk'.length)) w':=by
 refine⟨⟨a',junk',rfl,j,fun g e=>?_⟩,?_,lT h.sz b.size,fun k m d=>?_⟩
 ·rcases k2 g e with q | q
  ·exact h2 g q
  ·exact⟨by omega,.inr (lT h.sz q)⟩
 ·refine⟨b.os.trans h.ae.os,b.tape.trans h.ae.tape,b.output.trans h.ae.output,lT h.ae.size b.size,fun k c i=>?_⟩
  refine(b.block k (lL c h.ae.size) fun q=>?_).trans (h.ae.block k c i);have e:k=B+1:=by have:=(h2 k q).1;omega
  rw[e]at q;exact(f.ae h.ae (by omega)).ab (h1.arr _ q) (by decide) rfl
 ·refine(b.block k (lL d h.sz) fun q=>?_).trans (h.bq k m d)
  have:=(h2 k q).2;omega
theorem aNK(h:yI.Sl w u l)(j:0<l.length):∃g o c,u=sL g o l.length c/\g<w.heap.size/\∀(w':World) (i:Nat),(w'.heap[g]?=w.heap[g]?)->i<l.length->w'.cell? (aD g (o+i*2))=some (.string (l.getD i (.empty,.empty)).1)/\w'.cell? (aD g (o+i*2+1))=some (.string (l.getD i (.empty,.empty)).2):=by
 obtain⟨g,o,c,rfl,f,a⟩:=h.at j;refine⟨g,o,c,rfl,f,fun w' i e b=>?_⟩;have d:∀k,w'.cell? (aD g k)=w.cell? (aD g k):=fun k=>by simp[World.cell?,e]
 exact⟨(d _).trans (a i 0 b (by decide)),(d _).trans (a i 1 b (by decide))⟩
theorem aBZ{nodes:Nat->Option Nd}{h b:Nat}{es:List E3}{k:Int}(a:nodes b=some (k,es)):bJ nodes (h+1) b=es.flatMap fun e=>bJ nodes h (ch e):=by
 show(mT nodes b).flatMap _=_
 rw[cZ a]
theorem qC(hI:IC f)(ga:Nat)(ns nj:List NV):
  ∀(h b:Nat) (lo hi:OB) (w:World),Ok f.n h b lo hi->jD w ga ns nj f.n->(bJ f.n h b).length<=100000->
   Calls Tryz.prog 68 #[sL ga 0 ns.length (ns.length+nj.length),iV b] w fun r w'=>∃u,r=.returned u/\yI.Own w.heap.size w' u (bJ f.n h b)/\Bl w w'
 | 0,b,lo,hi,w,hk,E,CZ=>by
  have DC:=aNO;obtain⟨es,O,ur,hc⟩:=hk;have S3:bJ f.n 0 b=es.map fun e=>(e.1,e.2.1):=by unfold bJ;rw[cZ O]
  rw[S3]at CZ |-;have TF:=ur.bz;obtain⟨a,t,M,y9,_,c0,c1,_⟩:=E.at O;simp only at M c0 c1;have Fz:(b:Int) <(ns.length:Int):=by omega
  have bz:0<es.length->_:=fun h=>eG M h;obtain⟨B,x⟩:=eZ (w.heap.size);obtain⟨w1,G⟩:=eZ (w.alloc (.cells #[] 121));have D:=bAl G;obtain⟨B1,fe⟩:=eZ (w1.heap.size);have c0':w1.cell? (aD ga (b*2))=some (iV 1):=(D.cell (p:=aD ga _) E.arr.lt).trans c0;have c1':w1.cell? (aD ga (b*2+1))=some (.slice a es.length t):=(D.cell (p:=aD ga _) E.arr.lt).trans c1;go_enter Tryz.func68,Tryz.ntmps68;obtain⟨s,L⟩:=eZ (w1.alloc (.cells #[iV 1,.slice a es.length t] 96));have R:=bAl L;have Q:=iNw L fe;have K:B1=B+1:=by rw[<-fe,<-G,<-x];simp
  have ju:s.heap.size=B+2:=by rw[<-L];simp;omega
  have H:=D.trans (R.mono D.size);have IM:yI.Own B s (sL B 0 0 0) []:=by
   have:=(Ely.Own.lit (Y:=yI) B w (by omega) B x.symm)
   rw[show w.alloc (.cells #[] yI.t)=w1 from G]at this;exact this.below R
  have z:=aA (aI K ju);have GT:Hid (IsC s (B+1) #[iV 1,.slice a es.length t] 96):=by show IsC _ _ _ _;rw[<-K];exact Q
  clear K ju M;go_wp2;go_loopw [5,7,8,9] (fun u i _ _ wr=>∃j:Nat,j<=es.length/\i=iV j/\ItR s B ((es.take j).map fun e=>(e.1,e.2.1)) u wr) (fun _ i _ _ _=>es.length -(intOf i).toNat)
  case atStart=>exact⟨0,by omega,rfl,⟨IM,Frm.refl _ _⟩⟩
  case round=>
   obtain⟨j,hj,rfl,d⟩:=hrel;have F:IsC wr B1 #[iV 1,.slice a es.length t] 96:=Q.ae d.ae (by have:=z.out;omega);have b0:wr.cell? (aD B1 0)=some (iV 1):=F.c rfl;have b1:wr.cell? (aD B1 1)=some (.slice a es.length t):=F.c rfl;by_cases A:j<es.length
   ·obtain⟨g,o,c,he,hg,aa⟩:=bz (by omega)
    cases he
    have MH:g≠B:=by omega
    obtain⟨x0,x1,_⟩:=aa wr j ((d.ae.block g (lL hg H.size) MH).trans (H.block g hg)) A;have eX:(j:Int) <(es.length:Int):=by omega
    have ah:((es.take j).map fun e:E3=>(e.1,e.2.1)).length<1000000:=by
     rw[List.length_map]at CZ |-;simp;omega
    have HS:Hid (((es.take (j+1)).map fun e:E3=>(e.1,e.2.1))=((es.take j).map fun e:E3=>(e.1,e.2.1))++[((es.getD j e0).1,(es.getD j e0).2.1)]):=by
     show _=_
     rw[cO es j e0 A,List.map_append];rfl
    have aw:B<=wr.heap.size:=by have:=d.ae.size;have:=z.out;omega
    have am:=d.own;have C:=aA d;have vm:g<B:=by omega
    have Ba:Hid (j+1<=es.length):=A;have Qn:Hid (∀w' u' l',Below B wr w'->ItR s B l' u' w'->w'.cell? (aD B1 1)=some (sL g o es.length t)/\w'.cell? (aD g (o+j*3))=some (.string (es.getD j e0).1)/\w'.cell? (aD g (o+j*3+1))=some (.string (es.getD j e0).2.1)):=fun w' u' l' hb hI=>by
     have SC:IsC w' B1 #[iV 1,sL g o es.length t] 96:=Q.ae hI.ae (by have:=z.out;omega);exact⟨SC.c rfl,(hb.cell (p:=aD g _) vm).trans x0,(hb.cell (p:=aD g _) vm).trans x1⟩
    generalize (es.getD j e0).1=I at *;generalize (es.getD j e0).2.1=J at *;generalize (es.take j).map (fun e:E3=>(e.1,e.2.1))=n at *;clear bz aa d F;go_wp2;go_region_held3 (fun W=>W.cell? (aD B1 1)=some (sL g o es.length t)/\W.cell? (aD g (o+j*3))=some (.string I)/\W.cell? (aD g (o+j*3+1))=some (.string J)) (first | assumption | go_keep) ((refine yI.c8 (by rfl) _ _ (by rfl) am (by rfl) (I,J) (by rfl) (by rfl) ah aw ?_;intro u' w5 T k2 U;have RU:=C.out.app GT.out z.out.2 T U;have KH:=Qn.out w5 _ _ k2 RU));rw[<-HS.out]at RU;clear KH T U;go_wp2;go_roundw
    case rel=>exact⟨j+1,Ba.out,by go_num,RU⟩
    case measure=>have P7:=Ba.out;simp[intOf];omega
   ·obtain rfl:j=es.length:=by omega
    rw[List.take_of_length_le (nR _)]at d;have C:Hid (yI.Own w.heap.size wr u5 (es.map fun e:E3=>(e.1,e.2.1))/\Bl w wr):=⟨by rw[x];exact d.own,H.trans (d.ae.below (by rw[x];have:=z.out;omega) fun k e=>by rw[e];omega)⟩;clear bz d F;go_wp2;go_ret;rw[<-x];exact⟨_,rfl,C.out.1,C.out.2⟩
 | h+1,b,lo,hi,w,hk,E,CZ=>by
  obtain⟨es,O,ur,au,h4,mz⟩:=hk;have TF:=ur.bz;have S3:bJ f.n (h+1) b=es.flatMap fun e=>bJ f.n h (ch e):=aBZ O;rw[S3]at CZ |-;obtain⟨a,t,M,y9,_,c0,c1,_⟩:=E.at O;simp only at M c0 c1;have Fz:(b:Int) <(ns.length:Int):=by omega
  have qd:0<es.length:=List.length_pos_iff.2 au;obtain⟨g,o,c,he,hg,aa⟩:=eG M qd;cases he;obtain⟨B,x⟩:=eZ (w.heap.size);obtain⟨w1,G⟩:=eZ (w.alloc (.cells #[] 121));have D:=bAl G;obtain⟨B1,fe⟩:=eZ (w1.heap.size);have c0':w1.cell? (aD ga (b*2))=some (iV 2):=(D.cell (p:=aD ga _) E.arr.lt).trans c0;have c1':w1.cell? (aD ga (b*2+1))=some (sL g o es.length t):=(D.cell (p:=aD ga _) E.arr.lt).trans c1;obtain⟨s,L⟩:=eZ (w1.alloc (.cells #[iV 2,sL g o es.length t] 96));have R:=bAl L;have Q:=iNw L fe;have K:B1=B+1:=by rw[<-fe,<-G,<-x];simp
  have ju:s.heap.size=B+2:=by rw[<-L];simp;omega
  have H:=D.trans (R.mono D.size);have IM:yI.Own B s (sL B 0 0 0) []:=by
   have:=(Ely.Own.lit (Y:=yI) B w (by omega) B x.symm)
   rw[show w.alloc (.cells #[] yI.t)=w1 from G]at this;exact this.below R
  have z:=aA (aI K ju);have GT:Hid (IsC s (B+1) #[iV 2,sL g o es.length t] 96):=by show IsC _ _ _ _;rw[<-K];exact Q
  have MH:g≠B:=by omega
  have Sf:ga≠B:=by have:=E.arr.lt;omega
  have L1:Hid (∀wr,Frm (fun k=>k=B) s wr->jD wr ga ns nj f.n):=fun wr hF=>by
   refine(E.below H).ae hF (fun g' cs ti=>?_) Sf;intro e;rw[e]at ti;have:IsC s B #[] 121:=by
    have h1:=iNw G x;exact h1.of (R.block _ h1.lt)
   exact ti.ab this (by decide) rfl
  clear K ju M;go_enter Tryz.func68,Tryz.ntmps68;go_wp2;go_loopw [5,7,8,9] (fun u i _ _ wr=>∃j:Nat,j<=es.length/\i=iV j/\ItR s B ((es.take j).flatMap fun e=>bJ f.n h (ch e)) u wr) (fun _ i _ _ _=>es.length -(intOf i).toNat)
  case atStart=>exact⟨0,by omega,rfl,⟨IM,Frm.refl _ _⟩⟩
  case round=>
   obtain⟨j,hj,rfl,d⟩:=hrel;have F:IsC wr B1 #[iV 2,sL g o es.length t] 96:=Q.ae d.ae (by have:=z.out;omega);have b0:wr.cell? (aD B1 0)=some (iV 2):=F.c rfl;have b1:wr.cell? (aD B1 1)=some (sL g o es.length t):=F.c rfl;by_cases A:j<es.length
   ·obtain⟨_,_,x2⟩:=aa wr j ((d.ae.block g (lL hg H.size) MH).trans (H.block g hg)) A
    have eX:(j:Int) <(es.length:Int):=by omega
    have qy:=hI.ar O A;have jy:(es.getD j e0).2.2=(kd es j:Int):=by unfold kd ch;omega
    rw[jy]at x2;have jo:=L1.out wr d.ae;have ww:es.flatMap (fun e=>bJ f.n h (ch e))=(es.take j).flatMap (fun e=>bJ f.n h (ch e))++(bJ f.n h (kd es j)++(es.drop (j+1)).flatMap (fun e=>bJ f.n h (ch e))):=sG es _ A;have ed:=congrArg List.length ww;rw[lP,lP]at ed;have EL:=aA (qC hI ga ns nj h (kd es j) _ _ wr (mz j A).2 jo (by omega));have HS:Hid ((es.take (j+1)).flatMap (fun e=>bJ f.n h (ch e))=(es.take j).flatMap (fun e=>bJ f.n h (ch e))++bJ f.n h (kd es j)):=by
     show _=_
     rw[cO es j e0 A,List.flatMap_append];simp;rfl
    have ah:((es.take j).flatMap fun e=>bJ f.n h (ch e)).length+(bJ f.n h (kd es j)).length<=100000:=by omega
    obtain⟨w5,tu⟩:∃w5,w5=wr:=⟨_,rfl⟩;have Dt:B<=wr.heap.size:=by have:=d.ae.size;have:=z.out;omega
    generalize bJ f.n h (kd es j)=q at *;generalize (es.take j).flatMap (fun e=>bJ f.n h (ch e))=n at *;have Ba:Hid (j+1<=es.length):=A;have Q2:=aA tu;clear aa ww ed tu F jy qy mz;go_wp2_with fail;refine EL.out.mono ?_;rintro r Z ⟨u2,rfl,GM,nk⟩;obtain⟨ua,uc,rfl⟩:=GM.sl.len;have VD:InR s Z B wr.heap.size n u5 Z:=by
     obtain⟨P,v,V,X,q3⟩:=d.own;exact⟨⟨P,v,V,X.ae (Frm.aa (S:=fun _=>False) nk) fun _ _=>id,fun g' e=>⟨q3 g' e,.inl (X.arr g' e).lt⟩⟩,d.ae.trans (Frm.aa nk),nR _,fun _ _ _=>rfl⟩
    have Xc:=aA GM;have Tl:wr.heap.size<=Z.heap.size:=nk.size;obtain⟨W5,C8⟩:=eZ (wr.heap.size);rw[C8]at VD Tl;have Uq:Hid (yI.Own W5 Z (.slice ua q.length uc) q):=by show yI.Own _ _ _ _;rw[<-C8];exact GM
    clear GM d C8 jo Xc;go_wp2;go_loopw [5,9] (fun u i wx=>∃m:Nat,m<=q.length/\i=iV m/\InR s Z B W5 (n++q.take m) u wx) (fun _ i _=>q.length -(intOf i).toNat)
    case atStart=>exact⟨0,by omega,rfl,by simpa using VD⟩
    case round=>
     obtain⟨m,hm,rfl,d⟩:=hrel;by_cases y:m<q.length
     ·obtain⟨P,v,rfl,V,X⟩:=id d.own
      obtain⟨g3,o3,c3,Kv,DF,lz⟩:=aNK Uq.out.sl (by omega);cases Kv;have Ie:W5<=g3:=by
       obtain⟨a3,j3,e3,_,e4⟩:=Uq.out;cases a3 with
       | none=>simp[adr]at e3
       | some g4=>
        simp only[adr,Option.map_some,Value.slice.injEq,sJ,Addr.mk.injEq]at e3;have:=e4 g4 rfl;omega
      obtain⟨y0,y1⟩:=lz wr m (d.bq g3 Ie DF) y;have WG:(m:Int) <(q.length:Int):=by omega
      have wm:(n++q.take m).length<1000000:=by simp;omega
      have HT:Hid (n++q.take (m+1)=n++q.take m++[((q.getD m (.empty,.empty)).1,(q.getD m (.empty,.empty)).2)]):=by
       show _=_
       rw[cO q m (ByteArray.empty,ByteArray.empty) y,List.append_assoc]
      have L5:B<=wr.heap.size:=lT (by have:=z.out;omega) d.ae.size;have C:=aA d;generalize (q.getD m (.empty,.empty)).1=I at *;generalize (q.getD m (.empty,.empty)).2=J at *;have ly:Hid (∀N l w',yI.Rw w' N (n++q.take m++[(I,J)]) l->(∀g,N=some g->P=some g\/wr.heap.size<=g)->Frm (fun k=>P=some k) wr w'->InR s Z B W5 (n++q.take (m+1)) (.slice (adr N) (n++q.take m++[(I,J)]).length ((n++q.take m++[(I,J)]).length+l.length)) w'):=fun N l w' T k2 U=>by
       rw[HT.out];exact C.out.step GT.out z.out.2 V X T k2 U L5
      generalize n++q.take m=pm at *;have Fi:Hid (m+1<=q.length):=y;clear lz d;go_wp2_with (first | (at_builtin;refine yI.cm rfl _ _ rfl V rfl (I,J) rfl rfl wm ?_;intro N l w7 T k2 U;have VC:=ly.out N l w7 T k2 U;clear ly) | go_in);go_roundw
      case rel=>
       have e9:(pm++[(I,J)]).length=pm.length+1:=by simp
       rw[e9]at VC;exact⟨m+1,Fi.out,by go_num,VC⟩
      case measure=>have P7:=Fi.out;simp[intOf];omega
     ·obtain rfl:m=q.length:=by omega
      rw[List.take_of_length_le (nR _),<-HS.out]at d;have HI:Hid (ItR s B ((es.take (j+1)).flatMap fun e=>bJ f.n h (ch e)) u5 wr):=by
       obtain⟨P,v,q0,V,X⟩:=d.own;exact⟨⟨P,v,q0,V,fun g' e=>(X g' e).1⟩,d.ae⟩
      clear d;go_wp2;go_roundw
      case rel=>exact⟨j+1,Ba.out,by go_num,HI.out⟩
      case measure=>have P7:=Ba.out;simp[intOf];omega
   ·obtain rfl:j=es.length:=by omega
    rw[List.take_of_length_le (nR _)]at d;have C:Hid (yI.Own w.heap.size wr u5 (es.flatMap fun e=>bJ f.n h (ch e))/\Bl w wr):=⟨by rw[x];exact d.own,H.trans (d.ae.below (by rw[x];have:=z.out;omega) fun k e=>by rw[e];omega)⟩;clear d F;go_wp2;go_ret;rw[<-x];exact⟨_,rfl,C.out.1,C.out.2⟩
def uR(o:OB):Value:=match o with
 | none=>.tuple #[.string .empty,.bool false]
 | some v=>.tuple #[.string v,.bool true]
theorem aJS{j:Nat}(b:j<l.length)(h:∀x,x<j->(l.getD x (.empty,.empty)).1≠key)(he:(l.getD j (.empty,.empty)).1=key):fG l key=some (l.getD j (.empty,.empty)).2:=by
 induction l generalizing j with
 | nil=>simp at b
 | cons a l ih=>
  unfold fG;rw[List.find?_cons];cases j with
  | zero=>
   have:(a.1.toList == key.toList)=true:=by rw[show a.1=key from he];exact beq_self_eq_true _
   rw[this];rfl
  | succ j=>
   have:(a.1.toList == key.toList)=false:=by
    rw[beq_eq_false_iff_ne];intro e;exact h 0 (by omega) (gV e)
   rw[this];exact ih (j:=j) (by simpa using b) (fun x c=>h (x+1) (by omega)) he
theorem aJT(h:∀x,x<l.length->(l.getD x (.empty,.empty)).1≠key):fG l key=none:=by
 unfold fG;have:l.find? (fun p=>p.1.toList == key.toList)=none:=by
  rw[List.find?_eq_none];intro p b;obtain⟨j,a,rfl⟩:=List.getElem_of_mem b;have:=h j a;rw[gD,gE a]at this;intro e;exact this (gV (by simpa using e))
 rw[this];rfl
theorem pN(s:IC f){H:Nat}(ht:t<f.r.length)(B:Ok f.n H (aB f t) none none)(key:ByteArray)(w:World)(S:Nat)(A:SA)(b:Sp w S A f):
  Calls Tryz.prog 49 #[pT S 0,iV t,.string key] w fun r w'=>r=.returned (uR (Fo.find f.n H (aB f t) key))/\Bl w w':=by
 rw[sD B];have R:=pK s B;obtain⟨_,Z,s2,_⟩:=b.cells;obtain⟨_,r1⟩:=b.v.root ht;have I:0<=(f.r.getD t (0,0)).2:=(s.rb _ (aQ ht)).1;have q:(f.r.getD t (0,0)).2=(aB f t:Int):=by unfold aB;omega
 rw[q]at r1;have U:(t:Int) <(f.r.length:Int):=by omega
 have G:=aA ((qC s A.ga A.ns A.nj H (aB f t) none none w.drew B b.drew.v.aq (by omega)).mono (R':=fun r w1=>∃u,r=.returned u/\yI.Sl w1 u (bJ f.n H (aB f t))/\Bl w w1) fun r w1 O=>by
  obtain⟨u,J,K,L⟩:=O;exact⟨u,J,K.sl,(bQ _ w).drew.trans L⟩)
 generalize bJ f.n H (aB f t)=l at *;have T:=aA b;have E:Hid (∀w1,Bl w w1->w1.cell? (aD S 1)=some (sL A.ga 0 A.ns.length (A.ns.length+A.nj.length))/\w1.cell? (aD S 2)=some (sL A.gr 0 f.r.length (f.r.length+A.rj.length))/\w1.cell? (aD A.gr (t*2+1))=some (iV (aB f t))):=fun w1 z=>⟨(b.below z).cells.2.1,(b.below z).cells.2.2.1,by rw[((b.below z).v.root ht).2,q]⟩;clear q I;go_enter Tryz.func49,Tryz.ntmps49;go_wp2;go_region_held3 (fun W=>W.cell? (aD S 1)=some (sL A.ga 0 A.ns.length (A.ns.length+A.nj.length))/\W.cell? (aD S 2)=some (sL A.gr 0 f.r.length (f.r.length+A.rj.length))/\W.cell? (aD A.gr (t*2+1))=some (iV (aB f t))) (first | assumption | go_keep) ((go_at_call 68;refine G.out.mono ?_;rintro r w1 ⟨u,rfl,D,p⟩;have M:=E.out w1 p;obtain⟨ua,uc,rfl⟩:=D.len));have k:0<l.length->_:=fun h=>aNK D h;clear M;go_wp2;go_loopw [9] (fun i wr=>∃j:Nat,j<=l.length/\i=iV j/\Is2 (.bool false) (.bool false) wr w1/\Hid (∀x,x<j->(l.getD x (.empty,.empty)).1≠key)) (fun i _=>l.length -(intOf i).toNat)
 case atStart=>exact⟨0,by omega,rfl,⟨rfl,rfl⟩,fun x P=>by omega⟩
 case round=>
  obtain⟨j,Y,rfl,⟨_,Q⟩,d⟩:=hrel;subst Q;by_cases C:j<l.length
  ·obtain⟨g,o,c,a,X,n⟩:=k (by omega)
   cases a
   obtain⟨x0,x1⟩:=n wr j rfl C;have V:(j:Int) <(l.length:Int):=by omega
   by_cases a:(l.getD j (.empty,.empty)).1=key
   ·have m:Hid (uR (fG l key)=.tuple #[.string (l.getD j (.empty,.empty)).2,.bool true]):=by show uR _=_;rw[aJS C d.out a];rfl
    have N:((l.getD j (.empty,.empty)).1.toList == key.toList)=true:=by rw[a];exact beq_self_eq_true _
    clear k n d a;generalize (l.getD j (.empty,.empty)).1=x at *;generalize (l.getD j (.empty,.empty)).2=y at *;go_wp2;refine bodyPost_ret (v:=.tuple #[.string y,.bool true]) (by simp[results,Tryz.f49,go_sem]) rfl ?_;exact⟨by rw[m.out],p⟩
   ·have N:((l.getD j (.empty,.empty)).1.toList == key.toList)=false:=by rw[beq_eq_false_iff_ne];exact fun e=>a (gV e)
    have F:Hid (∀x,x<j+1->(l.getD x (.empty,.empty)).1≠key):=fun x P=>by
     by_cases e:x=j
     ·rw[e];exact a
     ·exact d.out x (by omega)
    clear k n d a;generalize (l.getD j (.empty,.empty)).1=x at *;go_wp2;go_roundw
    case rel=>exact⟨j+1,by omega,by go_num,⟨rfl,rfl⟩,F.out⟩
    case measure=>simp[intOf];omega
  ·obtain rfl:j=l.length:=by omega
   have m:Hid (uR (fG l key)=.tuple #[.string .empty,.bool false]):=by show uR _=_;rw[aJT d.out];rfl
   clear k d;go_wp2;refine bodyPost_ret (v:=.tuple #[.string .empty,.bool false]) (by simp[results,Tryz.f49,go_sem];try rfl) rfl ?_;exact⟨by rw[m.out],p⟩
theorem tM(c:List Int):∀k,iU c k<=k
 | 0=>nR _
 | k+1=>by
  have:=tM c k
  unfold iU;split<;>omega
def woT(l:List (Int×Int))(i:Nat)(j:Nat):List (Int×Int):=if j<=i then l.take j else delE (l.take j) i
theorem aKW(l:List (Int×Int))(i j:Nat)(b:j<l.length):woT l i (j+1)=if j=i then woT l i j else woT l i j++[l.getD j (0,0)]:=by
 have ht:=cO l j (0,0) b;unfold woT;by_cases q:j=i
 ·subst q
  rw[if_pos rfl,if_neg (by omega),if_pos (nR _),ht];unfold delE;have a:(l.take j).length=j:=by simp;omega
  rw[List.take_left' a,List.drop_of_length_le (by simp;omega)];simp
 ·rw[if_neg q]
  by_cases c:j<i
  ·rw[if_pos (by omega),if_pos (by omega),ht]
  ·rw[if_neg (by omega),if_neg (by omega),ht]
   unfold delE;rw[List.take_append_of_le_length (by simp;omega),List.drop_append_of_le_length (by simp;omega)];simp
theorem Sp.cW(h:Sp w S A f)(a:IsC w gr (yT.row (g.r++rj)) 92)(i:g.r.length+rj.length<=maxLen)(hn:∀b d,g.n b=some d->f.n b=some d)(c:g.c.length=f.c.length)(h1:g.next=f.next)(h2:g.gen=f.gen)(h3:g.m=f.m):
  Sp (w.setCell (aD S 2) (sL gr 0 g.r.length (g.r.length+rj.length))) S {A with gr:=gr,rj:=rj} g:=by
 have hF:Frm (fun k=>k=S) w (w.setCell (aD S 2) (sL gr 0 g.r.length (g.r.length+rj.length))):=Frm.set (S:=fun k=>k=S) w (p:=aD S 2) rfl _;refine⟨?_,(h.v.aq.ae hF (fun g cs k=>k.ab h.box (by decide)) (h.v.aq.arr.ab h.box (by decide))).sub hn,by show A.ns.length=_;rw[c];exact h.v.ln,a.ae hF (a.ab h.box (by decide)),i,by rw[h3];exact h.v.m.ae hF fun g cs k=>k.ab h.box (by decide)⟩;have:=h.box.set 2 (sL gr 0 g.r.length (g.r.length+rj.length));have e:(aL A f).setIfInBounds 2 (sL gr 0 g.r.length (g.r.length+rj.length))=aL {A with gr:=gr,rj:=rj} g:=by
  unfold aL;rw[c,h1,h2];rfl
 rw[e]at this;exact this
structure ZcP(w:World)(S:Nat)(A:SA)(g:fZ)(w':World):Prop where
 ex:∃A',Sp w' S A' g/\A'.tv=A.tv
 ae:Frm (fun k=>k=S\/k=A.ga\/k=A.gr) w w'
theorem aCD(a:CtS f)(n:CtS g)(ht:t<f.r.length)(h1:1<f.r.length)(hr:g.r=delE f.r t)(hn:∀b d,g.n b=some d->f.n b=some d)(Z:g.c.length=f.c.length)(hx:g.next=f.next)(OD:g.gen=f.gen)(SQ:g.m=f.m)(w:World)(S:Nat)(A:SA)(H:Sp w S A f):
  Calls Tryz.prog 48 #[pT S 0,iV t] w fun r w'=>r=.returned (.tuple #[iV ((fO f.n f.c.length:Int) -(fO g.n f.c.length:Int)),iV 0])/\ZcP w S A g w':=by
 have h8:=a.ic.n8;have Y:=a.ic.al;have Zl:=a.br;obtain⟨_,_,s2,_⟩:=H.cells;have au:((f.r.length:Int) == 1)=false:=by rw[beq_eq_false_iff_ne];omega
 have HC:=aA ((iL a.ic a.k a.ai w S A H (by omega)).mono (R':=fun r w1=>∃u,r=.returned u/\y64.Sl w1 u f.c/\Bl w w1) fun r w1 I=>by
  obtain⟨u,J,K,L⟩:=I;exact⟨u,J,K.sl,L⟩)
 have L0:=aA (tN a.ic);have XK:=aA (tN n.ic);have HS:=aA H;have ut:g.r.length=f.r.length-1:=by rw[hr];exact bU _ _ ht
 have P:=aA (aI hr ut);have l:=aA Z;clear hr ut Z;go_enter Tryz.func48,Tryz.ntmps48;go_wp2_with fail;refine HC.out.mono ?_;rintro r w1 ⟨u,rfl,o,U⟩;go_wp2_with fail;refine(qB u f.c w1 o Y (by omega)).mono ?_;rintro r w1' ⟨rfl,N⟩;rw[N];have W:=HS.out.below U;obtain⟨_,_,t2,_⟩:=W.cells;have Wt:=aA U;have vw:=aA W;obtain⟨s,M⟩:=eZ (iU f.c f.c.length);rw[M];have Q:=aA M;clear M N o;go_wp2;go_loopw [7,8] (fun u i wr=>∃j:Nat,j<=f.r.length/\i=iV j/\yT.Own w1.heap.size wr u (woT f.r t j)/\Bl w1 wr) (fun _ i _=>f.r.length -(intOf i).toNat)
 case atStart=>exact⟨0,by omega,rfl,Ely.Own.lit _ _ (nR _) _ (by omega),(bQ _ _).alloc (nR _) _⟩
 case round=>
  obtain⟨j,hj,rfl,C,m⟩:=hrel;have aw:=m.size;have c:=vw.out.below m;obtain⟨_,_,t2',_⟩:=c.cells;by_cases T:j<f.r.length
  ·obtain⟨x0,x1⟩:=c.v.root T
   have eX:(j:Int) <(f.r.length:Int):=by omega
   have ah:(woT f.r t j).length<1000000:=by
    unfold woT;split
    ·simp;omega
    ·rw[bU _ _ (by simp;omega)];simp;omega
   have h:=aA (aKW f.r t j T);have z:Hid (f.r.getD j (0,0)=((f.r.getD j (0,0)).1,(f.r.getD j (0,0)).2)):=rfl;rw[z.out]at h;generalize (f.r.getD j (0,0)).1=xa at *;generalize (f.r.getD j (0,0)).2=xb at *;generalize woT f.r t j=pre at *;clear c z;by_cases q:j=t
   ·have q':((j:Int) ==(t:Int))=true:=by simp[q]
    rw[if_pos q]at h;clear q;go_wp2;go_roundw
    case rel=>exact⟨j+1,by omega,by go_num,by rw[h.out];exact C,m⟩
    case measure=>simp[intOf];omega
   ·have q':((j:Int) ==(t:Int))=false:=by rw[beq_eq_false_iff_ne];omega
    rw[if_neg q]at h;clear q;go_wp2_with (first | (at_builtin;refine yT.av rfl _ _ rfl C rfl (xa,xb) rfl rfl ah aw ?_;intro u' w5 k1 k2 k3) | go_in);rw[<-h.out]at k1;go_roundw
    case rel=>exact⟨j+1,by omega,by go_num,k1,m.trans k2⟩
    case measure=>simp[intOf];omega
  ·obtain rfl:j=f.r.length:=by omega
   have G:woT f.r t f.r.length=g.r:=by unfold woT;rw[if_neg (by omega),P.out.1];simp
   rw[G]at C;obtain⟨R,rj,rfl,E,lj⟩:=C;have vm:0<g.r.length:=by rw[P.out.2];omega
   obtain⟨gr,rfl⟩:∃gr,R=some gr:=by
    cases R with
    | none=>have:=(E.nil rfl).1;rw[this]at vm;simp at vm
    | some x=>exact⟨x,rfl⟩
   simp only[adr,Option.map_some];have D:=c.cW (g:=g) (E.arr gr rfl) E.small hn l.out hx OD SQ;obtain⟨F,X⟩:=eZ (wr.setCell (aD S 2) (sL gr 0 g.r.length (g.r.length+rj.length)));rw[X]at D;have z2:=c.box.frozen 2;have V:Frm (fun k=>k=S) wr F:=by rw[<-X];exact Frm.set (S:=fun k=>k=S) wr (p:=aD S 2) rfl _
   have Cv:=aA ((iL n.ic n.k n.ai F S _ D (by have:=n.br;omega)).mono (R':=fun r w1=>∃u,r=.returned u/\y64.Sl w1 u g.c/\Bl F w1) fun r w1 I=>by
    obtain⟨u,J,K,L⟩:=I;exact⟨u,J,K.sl,L⟩)
   have pq:=aA D;have H6:Hid (Frm (fun k=>k=S\/k=A.ga\/k=A.gr) w F):=((Frm.aa Wt.out).trans ((Frm.aa m).wide (S:=fun _=>False) fun _ _ e=>e.elim)).trans (V.wide fun _ _ e=>.inl e);clear D E lj c V;go_wp2_with fail;refine Cv.out.mono ?_;rintro r w4 ⟨u,rfl,o,it⟩;go_wp2_with fail;refine(qB u g.c w4 o (by rw[l.out];exact Y) (by rw[l.out];omega)).mono ?_;rintro r w4' ⟨rfl,O⟩;rw[O];obtain⟨y,B⟩:=eZ (iU g.c g.c.length);rw[B];have YQ:s<=512/\y<=512:=by
    have G:=tM f.c f.c.length;have e2:=tM g.c g.c.length;rw[Q.out]at G;rw[B,l.out]at e2;omega
   have hwp:IntKind.i64.wrap ((s:Int) -(y:Int))=(s:Int) -(y:Int):=IntWalk.i64_in _ ⟨by omega,by omega⟩;have HZ:Hid (ZcP w S A g w4):=⟨⟨_,pq.out.below it,rfl⟩,H6.out.trans (Frm.aa it)⟩;have z:Hid ((fO f.n f.c.length:Int) -(fO g.n f.c.length:Int)=(s:Int) -(y:Int)):=by
    show _=_
    rw[<-L0.out,Q.out,<-l.out,<-XK.out,B]
   clear o O B;go_wp2;refine bodyPost_ret (v:=.tuple #[iV ((s:Int) -(y:Int)),iV 0]) (by simp[results,Tryz.f48,go_sem]) rfl ?_;exact⟨by rw[z.out],HZ.out⟩
theorem Ely.da(Y:Ely α)(a:Option Nat)(es b vs:List α)(v:Value)(W:World)(d:Y.Rw W a es b)(A:Y.Sl W v vs)(F:es.length+vs.length<=1000000):
  ∃u W' a' junk',(∀ty,(Builtin.append_ #[Y.s,Y.s] ty #[.slice (adr a) es.length (es.length+b.length),v]).run Tryz.prog W=.ok u W')/\u=.slice (adr a') (es.length+vs.length) (es.length+vs.length+junk'.length)/\
   Y.Rw W' a' (es++vs) junk'/\(∀g,a'=some g->a=some g\/W.heap.size<=g)/\Frm (fun k=>a=some k) W W'/\(a'=a\/Frm (fun _=>False) W W'):=by
 obtain⟨c,m,i,p,C⟩:=Y.info;have G:=d.small;have l:Src Tryz.prog c.size Y.s v vs.length (vs.flatMap Y.cell) W:=by
  rcases A with⟨rfl,rfl⟩ | ⟨t,o,j,xs,rfl,B,y,x⟩
  ·exact Src.ofNil W Y.us 0
  ·exact Src.ofSlice W Y.us ⟨t,o*Y.n,none⟩ vs.length j _ (by rw[Y.len,i]) (Ely.Sl.cells B y x) (Y.ed vs)
 by_cases D:vs.length<=b.length
 ·cases a with
  | none=>
   obtain⟨rfl,rfl⟩:=d.nil rfl;have r:vs=[]:=List.length_eq_zero_iff.1 (by simpa using D);subst r;refine⟨_,W,none,[],fun ty=>?_,rfl,⟨fun g q=>(by cases q),fun _=>⟨rfl,rfl⟩,by simp⟩,fun g q=>(by cases q),Frm.refl _ _,.inl rfl⟩;have:=run_append_nothing (P:=Tryz.prog) W Y.s Y.s ty Y.t c Y.us m none 0 0 (nR _) v l;exact this
  | some g=>
   have f:=d.arr g rfl;refine⟨_,_,some g,b.drop vs.length,fun ty=>run_append_room_src (P:=Tryz.prog) W Y.s Y.s ty Y.t c Y.us m g 0 es.length (es.length+b.length) v _ _ l (by omega)
    (fun k n=>by
     rw[Y.len]at n;have:(es.length+vs.length)*Y.n<=(es.length+b.length)*Y.n:=Nat.mul_le_mul_right _ (by omega);rw[Nat.add_mul,Nat.add_mul]at this;rw[f.cell,i,Array.getElem?_eq_getElem (by rw[Y.size,lP,Nat.add_mul];omega)];rfl) (fun k n=>f.frozen _),?_,⟨fun g' q=>?_,fun q=>(by cases q),?_⟩,fun g' q=>.inl q,?_,.inl rfl⟩
   ·simp[adr];omega
   ·cases q
    have:=IsC.a8 (vs.flatMap Y.cell) (cs:=(es++b).flatMap Y.cell) (es.length*Y.n) f (by
     rw[Y.len,Y.len,lP,<-Nat.add_mul];exact Nat.mul_le_mul_right _ (by omega))
    rw[Y.spl]at this;have s:Go.Proofs.YtmpagpeenjddgaaGreat.spl (es++b) es.length vs=es++vs++b.drop vs.length:=by
     unfold Go.Proofs.YtmpagpeenjddgaaGreat.spl;rw[List.take_left,<-List.drop_drop,List.drop_left]
    rw[s]at this;rw[i,Nat.zero_add];exact this
   ·simp;omega
   ·exact Frm.a8 (S:=fun k=>some g=some k) _ rfl _ _
 ·have E:(Builtin.firstCells c.size es.length (.slice (adr a) es.length (es.length+b.length))).run Tryz.prog W.drew=.ok (es.flatMap Y.cell).toArray W.drew:=by
   cases a with
   | none=>
    obtain⟨rfl,rfl⟩:=d.nil rfl;exact run_firstCells_none (P:=Tryz.prog) W.drew c.size 0 0 0
   | some g=>
    have f:=d.arr g rfl;exact run_firstCells_some (P:=Tryz.prog) W.drew c.size es.length ⟨g,0,none⟩ es.length _ (es.flatMap Y.cell) (by rw[Y.len,i]) (by
     have:=Ely.Sl.cells (Y:=Y) (w:=W.drew) (g:=g) (o:=0) (xs:=es++b) (es:=es) f.drew (by rw[lP];omega) (by simp)
     rw[Nat.zero_mul]at this;exact this)
  have z:=fun ty=>run_append_grow_src (P:=Tryz.prog) W Y.s Y.s ty Y.t c _ Y.us m C (adr a) es.length (es.length+b.length) (es.flatMap Y.cell) E v vs.length (vs.flatMap Y.cell) l (by omega) (by omega) (by rw[p];exact Y.e4 (by omega) (by omega));have I:=grownCap_ge W (es.length+vs.length) (es.length+b.length) Y.t;have H:=grownCap_le_maxLen W (es.length+vs.length) (es.length+b.length) Y.t (by simp[maxLen];omega);generalize grownCap W (es.length+vs.length) (es.length+b.length) Y.t=h at *;refine⟨_,_,some W.heap.size,List.replicate (h -(es.length+vs.length)) Y.z,z,?_,⟨fun g q=>?_,fun q=>(by cases q),?_⟩,fun g q=>(by cases q;exact .inr (nR _)),?_,.inr ((Frm.drew _ W).trans (Frm.alloc _ _ _))⟩
  ·simp[adr];omega
  ·cases q
   have:=IsC.new W.drew ((es.flatMap Y.cell++vs.flatMap Y.cell).toArray++Builtin.zeroCells Y.zv.cells (h -(es.length+vs.length))) Y.t
   have e:Y.row (es++vs++List.replicate (h -(es.length+vs.length)) Y.z)=(es.flatMap Y.cell++vs.flatMap Y.cell).toArray++Builtin.zeroCells Y.zv.cells (h -(es.length+vs.length)):=by
    rw[Y.c9];simp[Ely.row]
   rw[e];exact this
  ·simp;omega
  ·exact(Frm.drew _ W).trans (Frm.alloc _ _ _)
theorem lV(s x:Operand)(t b:TypeId)
  (f:o.op=.call {callee:=.builtin .append,args:=#[s,x],argTypes:=#[t,b]}) (e:Nat) (hd:o.dst=some e) (vs d:Value) (g:a.eval s=vs) (hx:a.eval x=d)
  (c:Value) (w':World) (hr:(Builtin.append_ #[t,b] o.type #[vs,d]).run P w=.ok c w') (h:K (a.put (some e) c) w'):Oper.wp P o a w K Q:=
 qL s x t b f vs d g hx c w' hr (by rw[hd];exact h)
theorem Sp.cz(a:IsC w S (aL A f) 58)(c:jD w A.ga A.ns A.nj f.n)(l:A.ns.length=f.c.length)(j:y64.Sl w A.cv f.m)(h:IsC w gr (yT.row (g.r++rj)) 92)(m:g.r.length+rj.length<=maxLen)(hn:∀b d,g.n b=some d->f.n b=some d)(i:g.c.length=f.c.length)(h1:g.next=f.next)(h2:g.gen=f.gen)(h3:g.m=f.m):
  Sp (w.setCell (aD S 2) (sL gr 0 g.r.length (g.r.length+rj.length))) S {A with gr:=gr,rj:=rj} g:=by
 have hF:Frm (fun k=>k=S) w (w.setCell (aD S 2) (sL gr 0 g.r.length (g.r.length+rj.length))):=Frm.set (S:=fun k=>k=S) w (p:=aD S 2) rfl _;refine⟨?_,(c.ae hF (fun g cs k=>k.ab a (by decide)) (c.arr.ab a (by decide))).sub hn,by show A.ns.length=_;rw[i];exact l,h.ae hF (h.ab a (by decide)),m,by rw[h3];exact j.ae hF fun g cs k=>k.ab a (by decide)⟩;have:=a.set 2 (sL gr 0 g.r.length (g.r.length+rj.length));have e:(aL A f).setIfInBounds 2 (sL gr 0 g.r.length (g.r.length+rj.length))=aL {A with gr:=gr,rj:=rj} g:=by
  unfold aL;rw[i,h1,h2];rfl
 rw[e]at this;exact this
theorem Sp.de(h:Sp w S A f)(v:Int):Sp (w.setCell (aD S 3) (iV v)) S A {f with next:=v}/\Frm (fun k=>k=S) w (w.setCell (aD S 3) (iV v)):=by
 have hF:Frm (fun k=>k=S) w (w.setCell (aD S 3) (iV v)):=Frm.set (S:=fun k=>k=S) w (p:=aD S 3) rfl _;refine⟨⟨?_,h.v.aq.ae hF (fun g cs k=>k.ab h.box (by decide)) (h.v.aq.arr.ab h.box (by decide)),h.v.ln,h.v.bp.ae hF (h.v.bp.ab h.box (by decide)),h.v.rs,h.v.m.ae hF fun g cs k=>k.ab h.box (by decide)⟩,hF⟩;exact h.box.set 3 (iV v)
theorem zO(hI:IC f)(ht:t<f.r.length)(kz:f.r.length<16)(hn:0<=f.next/\f.next<65535)(w:World)(S:Nat)(A:SA)(L:Sp w S A f):
  Calls Tryz.prog 47 #[pT S 0,iV t] w fun r w'=>r=.returned (.tuple #[iV f.next,iV 0])/\ZcP w S A (cS f t) w':=by
 obtain⟨_,_,s2,s3,_⟩:=L.cells;obtain⟨_,r1⟩:=L.v.root ht;have h0:0<=(f.r.getD t (0,0)).2:=(hI.rb _ (aQ ht)).1;have K:(f.r.getD t (0,0)).2=(aB f t:Int):=by unfold aB;omega
 rw[K]at r1;have Tv:(t:Int) <(f.r.length:Int):=by omega
 have Mz:¬((16:Int)<=(f.r.length:Int)):=by omega
 have TS:¬((65535:Int)<=f.next):=by omega
 have O6:IntKind.i64.wrap (f.next+1)=f.next+1:=IntWalk.i64_in _ ⟨by omega,by omega⟩;have D:=aA K;have IT:=aHT;obtain⟨c,J⟩:=eZ (aB f t);obtain⟨a,H⟩:=eZ (f.next);rw[J]at r1 D;have O:=aA (aI H J);rw[H]at s3 TS O6;rw[H];have HS:=aA L;clear K h0 J H;go_enter Tryz.func47,Tryz.ntmps47;go_wp2;have h:w.drew.cell? (aD S 2)=some (sL A.gr 0 f.r.length (f.r.length+A.rj.length))/\w.drew.cell? (aD A.gr (t*2+1))=some (iV (c:Int)):=⟨s2,r1⟩;refine bB (fun W=>W.cell? (aD S 2)=some (sL A.gr 0 f.r.length (f.r.length+A.rj.length))/\W.cell? (aD A.gr (t*2+1))=some (iV (c:Int))) 19 (by kernel_rfl) ?_;refine tJ 0 24 (pT S 0) rfl h ?_;refine tJ 1 25 (pT S 0) rfl h ?_;refine tJ 2 26 (pT S 0) rfl h ?_;refine tJ 3 27 (pT S 2) rfl h ?_;refine tJ 4 28 (sL A.gr 0 f.r.length (f.r.length+A.rj.length)) rfl h ?_;refine tJ 5 29 (iV a) rfl h ?_;refine tJ 6 30 (pT S 0) rfl h ?_;refine tJ 7 31 (pT S 0) rfl h ?_;refine tJ 8 32 (pT S 2) rfl h ?_;refine tJ 9 33 (sL A.gr 0 f.r.length (f.r.length+A.rj.length)) rfl h ?_;refine tJ 10 34 (iV t) rfl h ?_;refine tJ 11 35 (pT A.gr (t*2)) rfl h ?_;refine tJ 12 36 (pT A.gr (t*2+1)) rfl h ?_;refine tJ 13 37 (iV (c:Int)) rfl h ?_;refine tJ 14 38 (.agg #[iV a,iV (c:Int)]) rfl h ?_;simp only[Act.put,sB,sZ,sS];refine oE 15 rfl fun K2 m=>?_;go_simp;obtain⟨G,R⟩:=exH (w.heap.size);obtain⟨s,I⟩:=exH ((w.alloc (.cells #[iV a,iV (c:Int)] 92)).drew);rw[<-I.out,<-R.out];have U:Bl w s:=by rw[I.out];exact((bQ _ w).alloc (nR _) _).drew
 have kw:yT.Sl s (sL G 0 1 1) [(a,(c:Int))]:=by
  rw[I.out,R.out];exact(Ely.Sl.new (Y:=yT) w (a,(c:Int)) rfl).below (bQ _ _).drew
 have l:=HS.out.below U;have N:s.cell? (aD S 2)=some (sL A.gr 0 f.r.length (f.r.length+A.rj.length))/\s.cell? (aD A.gr (t*2+1))=some (iV (c:Int)):=⟨l.cells.2.2.1,by rw[(l.v.root ht).2,D.out]⟩;have ft:yT.Rw s (some A.gr) f.r A.rj:=⟨fun g e=>(by cases e;exact l.v.bp),fun e=>(by cases e),l.v.rs⟩;obtain⟨u,o,T,n,X,V,z,m0,dz,TW⟩:=yT.da (some A.gr) f.r A.rj [(a,(c:Int))] _ s ft kw (by simp;omega);obtain⟨x,rfl⟩:∃g,T=some g:=by
  cases T with
  | none=>have:=(z.nil rfl).1;simp at this
  | some g=>exact⟨g,rfl⟩
 have Rt:S≠A.gr:=l.box.ab l.v.bp (by decide);have B:Frm (fun k=>k=A.gr) s o:=dz.wide fun k _ e=>by simp only[sJ]at e;exact e.symm
 have F:IsC o S (aL A f) 58:=l.box.ae B Rt;have c2:o.cell? (aD S 2)=some (sL A.gr 0 f.r.length (f.r.length+A.rj.length)):=F.c rfl;have z2:=F.frozen 2;refine m _ _ (fun _=>N) ?_;clear m K2 h;refine oE 16 rfl fun K2 m=>?_;refine lV _ _ _ _ rfl 40 rfl _ _ rfl rfl u o (X _) ?_;simp only[Act.put,sB,sZ,sS];have IV:o.cell? (aD A.gr (t*2+1))=some (iV (c:Int)):=by
  rcases TW with e | e
  ·cases e
   rw[(z.arr A.gr rfl).cell];have:=yT.at (f.r++[(a,(c:Int))]++n) (i:=t) (j:=1) (by simp;omega) (by decide);have e2:(f.r++[(a,(c:Int))]++n).getD t yT.z=f.r.getD t (0,0):=by rw[dC,if_pos (by simp;omega),dC,if_pos ht];rfl
   rw[e2]at this;refine(show(yT.row (f.r++[(a,(c:Int))]++n))[t*2+1]?=_ from this).trans ?_;show some (iV (f.r.getD t (0,0)).2)=_
   rw[D.out]
  ·have:=l.v.bp.ae e id
   rw[this.cell,<-l.v.bp.cell];exact N.2
 have M:o.cell? (aD S 2)=some (sL A.gr 0 f.r.length (f.r.length+A.rj.length))/\o.cell? (aD A.gr (t*2+1))=some (iV (c:Int)):=⟨c2,IV⟩;have GM:u=sL x 0 (f.r.length+1) (f.r.length+1+n.length):=V;subst GM;refine m _ _ (fun _=>M) ?_;clear m K2 N V X;refine oE 17 rfl fun K2 m=>?_;go_simp;refine m _ _ (fun _=>M) ?_;clear m K2;refine oE 18 rfl fun K2 m=>?_;go_simp;refine m _ _ (fun _=>M) ?_;clear m K2;refine oE 19 rfl fun K2 m=>?_;go_simp;refine m _ _ (fun q=>absurd rfl q) ?_;clear m K2;refine aT (by kernel_rfl) ?_ _;have C:=l.v.bp;have y:=Sp.cz (g:={f with r:=f.r++[(a,(c:Int))]}) F (l.v.aq.ae B (fun g cs k=>k.ab C (by decide)) (l.v.aq.arr.ab C (by decide))) l.v.ln (l.v.m.ae B fun g cs k=>k.ab C (by decide)) (z.arr x rfl) z.small (fun _ _ q=>q) rfl rfl rfl rfl;have q7:(f.r++[(a,(c:Int))]).length=f.r.length+1:=by simp
 simp only[q7]at y;obtain⟨P,E⟩:=eZ (o.setCell (aD S 2) (sL x 0 (f.r.length+1) (f.r.length+1+n.length)));rw[E]at y;rw[E];have bo:Frm (fun k=>k=S\/k=A.ga\/k=A.gr) w P:=((Frm.aa U).trans (B.wide fun _ _ e=>.inr (.inr e))).trans (by rw[<-E];exact(Frm.set (S:=fun k=>k=S) o (p:=aD S 2) rfl _).wide fun _ _ e=>.inl e);obtain⟨_,_,_,Z,_⟩:=y.cells;have v3':P.cell? (aD S 3)=some (iV a):=by rw[<-O.out.1];exact Z
 have z3:=y.box.frozen 3;obtain⟨Q,kj⟩:=y.de (a+1);have ap:∀b d,(cS f t).n b=some d->f.n b=some d:=fun _ _ q=>q;have HZ:Hid (ZcP w S A (cS f t) (P.setCell (aD S 3) (iV (a+1)))):=by
  refine⟨⟨_,Q.sub ap (by simp[cS]) ?_ ?_ rfl rfl,rfl⟩,bo.trans (kj.wide fun _ _ e=>.inl e)⟩
  ·show f.r++[(f.next,(f.r.getD t (0,0)).2)]=f.r++[(a,(c:Int))]
   rw[O.out.1,D.out]
  ·show f.next+1=a+1
   rw[O.out.1]
 clear y Q z F l C E Z;go_wp2;refine bodyPost_ret (v:=.tuple #[iV a,iV 0]) (by simp[results,Tryz.f47,go_sem]) rfl ?_;exact⟨rfl,HZ.out⟩
