import Derived.Test.YtmpagpeenjddgaaGreatHq28
import Derived.Test.YtmpagpeenjddgaaGreatPl2
set_option maxHeartbeats 9999999
set_option maxRecDepth 99999
set_option linter.all false
namespace Go.Proofs.YtmpagpeenjddgaaGreat
open Go.RowKit Go.Shelf Fo
theorem Fo.Inv.sz{f:fZ}(h:Inv f):Sz 2576 f:=
 ⟨h.ic.al,h.ic.n8,h.ic.len,fun b d a=>by have:=h.ai a;omega,fun b d a=>h.ic.lt a,h.counts,fun i=>⟨(h.db i).1,by have:=(h.db i).2;omega⟩⟩
def aNN(f:fZ)(t H:Nat)(key val:ByteArray)(tb:Nat)(g:fZ)(h:Nat->Option Obj):Prop:=∃th,put f t H key val=some (g,th)/\h tb=some (.cells #[.bool th] 4 (0,0))
theorem put_ok'{f:fZ}{t H:Nat}{key val:ByteArray}(w:Wk f t H)(hr:cJ f t H){g:fZ}{th:Bool}(d:put f t H key val=some (g,th)):∃H',Wk g t H'/\cJ g t H'/\g.r.length=f.r.length:=by
 obtain⟨H',a,b,c⟩:=xO w hr d;exact⟨H',a,b,c.len⟩
theorem aFJ{K:Int}(w:World)(ρ:Nat->Nat)(P:Nat)(A:Adr)(f:fZ)(t H:Nat)(key val:ByteArray)(n j c a:Nat)(O:Bool)(Q:St w ρ P A f [])(F:Wk f t H)(ei:cJ f t H)(hz:Sz K f)(vf:1<=K)(hK:K+10*(H+3)<=700000)(lq:13*(H+3)<=600000)
  (V:IsC w n #[pT P 0] 61) (T:IsC w j #[iV t] 3) (J:IsC w c #[.string key,.string val] 121) (L:IsC w a #[.bool O] 4) (l:ρ n=0/\ρ j=0/\ρ c=0/\ρ a=0) (kz:f.r.length<=16):
  Calls Tryz.prog 80 #[pT n 0,pT j 0,pT c 0,pT a 0] w
   (ChP (13*(H+3)) (fun x=>x=a) (K+10*(H+3)) (aNN f t H key val a) w ρ P f ((put f t H key val).map Prod.fst)):=by
 obtain⟨_,_,_,hR,_⟩:=id Q;have fu:t<f.r.length:=F.tl;obtain⟨i,ut⟩:=eZ (f.r.length);have WW:((t:Nat):Int) <(i:Int):=by omega
 have mk:∀(W:World) (ρ':Nat->Nat) (A':Adr) (g:fZ),IsC W n #[pT P 0] 61->IsC W j #[iV t] 3->IsC W c #[.string key,.string val] 121->(∃R,Rp W ρ' P A' g R)->A'.ra=A.ra->A'.rj=A.rj->g.r.length=f.r.length->W.cell? (aD n 0)=some (pT P 0)/\W.cell? (aD P 0)=some (sL A.ra 0 i (i+A.rj.length))/\W.cell? (aD j 0)=some (iV t)/\W.cell? (aD c 0)=some (.string key)/\W.cell? (aD c 1)=some (.string val):=fun W ρ' A' g a1 a2 N E a5 a6 a7=>by
  obtain⟨R,E⟩:=E;refine⟨a1.c rfl,?_,a2.c rfl,N.c rfl,N.c rfl⟩;rw[E.hP.cell];simp[dH,a5,a6,a7,ut]
 have HM:=aA mk;have d:w.drew.cell? (aD n 0)=some (pT P 0)/\w.drew.cell? (aD P 0)=some (sL A.ra 0 i (i+A.rj.length))/\w.drew.cell? (aD j 0)=some (iV t)/\w.drew.cell? (aD c 0)=some (.string key)/\w.drew.cell? (aD c 1)=some (.string val):=mk w ρ A f V T J ⟨_,hR⟩ rfl rfl rfl;clear mk;go_enter Tryz.func80,Tryz.ntmps80;go_wp2_with fail;refine bB (fun W=>W.cell? (aD n 0)=some (pT P 0)/\W.cell? (aD P 0)=some (sL A.ra 0 i (i+A.rj.length))/\W.cell? (aD j 0)=some (iV t)/\W.cell? (aD c 0)=some (.string key)/\W.cell? (aD c 1)=some (.string val)) 10 (by kernel_rfl) ?_;refine tJ 0 4 (pT P 0) rfl d ?_;refine tJ 1 5 (pT P 0) rfl d ?_;refine tJ 2 6 (pT P 0) rfl d ?_;refine tJ 3 7 (pT P 0) rfl d ?_;refine tJ 4 8 (sL A.ra 0 i (i+A.rj.length)) rfl d ?_;refine tJ 5 9 (iV t) rfl d ?_;refine tJ 6 10 (pT A.ra (t*2)) rfl d ?_;refine tJ 7 11 (pT A.ra (t*2+1)) rfl d ?_;refine tJ 8 12 (.agg #[.string key,.string val]) rfl d ?_;simp only[Act.put,sB,sZ,sS];refine oE 9 rfl fun K2 u=>?_;go_simp;have pr:Bl w w.drew:=(bQ _ _).drew;refine(aOJ (K:=K) w.drew ρ P A f [] t H key val (Q.below pr) F hz vf hK (by simpa using lq)).mono ?_;intro e r C;cases o:put f t H key val with
 | none=>
  obtain⟨rfl,ρ6,s,g,z,s6,m,j6⟩:=C.no o;refine⟨rfl,fun _=>⟨rfl,ρ6,s,g,z,s6,⟨(Frm.drew _ w).trans (m.ae.wide fun x _ q=>.inl (q.resolve_right id)),fun x v=>m.bu x v id⟩,j6⟩,fun g h=>by rw[o]at h;cases h⟩
 | some gt=>
  obtain⟨g,y⟩:=gt;obtain⟨ρ6,s,z,rfl,k,Y⟩:=C.yes g y o;have m:=k.mv;have b:∀{x:Nat} {cs:Array Value} {G:TypeId},IsC w x cs G->ρ x=0->IsC r x cs G:=fun {x cs G} v l=>(IsC.drew v).ae m.ae fun q=>q.elim (fun q=>q l) id;have D:=b L l.2.2.2;obtain⟨_,_,_,D8,_⟩:=id k.st;obtain⟨H',-,-,mw⟩:=put_ok' F ei o;have Z:=HM.out r ρ6 s g (b V l.1) (b T l.2.1) (b J l.2.2.1) ⟨_,D8⟩ k.ad.ra k.ad.rj mw;have ct:r.cell? (aD a 0)=some (.bool O):=D.c rfl;have cz:=D.frozen 0;have Zm:ρ6 a=0:=by rw[m.bu a L.lt id];exact l.2.2.2
  obtain⟨B,M⟩:=eZ (r.setCell (aD a 0) (.bool y));have X:Frm (fun x=>x=a) r B:=by rw[<-M];exact Frm.set (S:=fun x=>x=a) r (p:=aD a 0) rfl _
  have I:IsC B a #[.bool y] 4:=by
   have:=D.set 0 (.bool y)
   rw[M]at this;exact this
  have U:St B ρ6 P s g z:=k.st.ae (X.wide fun x _ e=>by rw[e];exact Zm);have HR:Hid (ChP (13*(H+3)) (fun x=>x=a) (K+10*(H+3)) (aNN f t H key val a) w ρ P f (some g) (.returned (.tuple #[])) B):=by
   refine⟨fun q=>(by cases q),fun g' q=>?_⟩;cases q;refine⟨rfl,ρ6,s,z,U,⟨?_,fun x v=>m.bu x v id⟩,k.js,Y,y,o,I⟩;exact((Frm.drew _ w).trans (m.ae.wide fun x _ q=>.inl (q.resolve_right id))).next X fun x _ q=>.inr q
  clear U I k Y C;refine u _ _ (fun _=>Z) ?_;clear u K2;refine oE 10 rfl fun K2 u=>?_;go_simp;refine u _ _ (fun q=>absurd rfl q) ?_;clear u K2;refine aT (by kernel_rfl) ?_ _;go_wp2;first | go_end0 | refine bodyPost_ret (results_none rfl _ _ _) rfl ?_
  rw[o];exact HR.out
theorem wU{K:Int}(w:World)(ρ:Nat->Nat)(P:Nat)(A:Adr)(f:fZ)(t H:Nat)(key:ByteArray)(s n r:Nat)(C:St w ρ P A f [])(D:Wk f t H)(I:cJ f t H)(O:Mem f.n H (aB f t) key)(M:Sz K f)(X:1<=K)(J:K+20*(H+3)<=600000)(Q:25*(H+3)<=500000)
  (U:IsC w s #[pT P 0] 61) (S:IsC w n #[iV t] 3) (F:IsC w r #[.string key] 9) (kz:f.r.length<=16):
  Calls Tryz.prog 83 #[pT s 0,pT n 0,pT r 0] w
   (ChP (25*(H+3)) (fun _=>False) (K+20*(H+3)) (fun _ _=>True) w ρ P f (bX f t H key)):=by
 obtain⟨_,_,_,L,_⟩:=id C;have fu:t<f.r.length:=D.tl;obtain⟨l,V⟩:=eZ (f.r.length);have Z:((t:Nat):Int) <(l:Int):=by omega
 have b:w.drew.cell? (aD s 0)=some (pT P 0)/\w.drew.cell? (aD P 0)=some (sL A.ra 0 l (l+A.rj.length))/\w.drew.cell? (aD n 0)=some (iV t)/\w.drew.cell? (aD r 0)=some (.string key):=by
  refine⟨by show w.cell? _=_;rw[U.cell];rfl,?_,by show w.cell? _=_;rw[S.cell];rfl,by show w.cell? _=_;rw[F.cell];rfl⟩;show w.cell? _=_
  rw[L.hP.cell];simp[dH,V]
 go_enter Tryz.func83,Tryz.ntmps83
 go_wp2_with fail
 refine bB (fun W=>W.cell? (aD s 0)=some (pT P 0)/\W.cell? (aD P 0)=some (sL A.ra 0 l (l+A.rj.length))/\W.cell? (aD n 0)=some (iV t)/\W.cell? (aD r 0)=some (.string key)) 9 (by kernel_rfl) ?_;refine aX (i:=0) 3 (pT P 0) (by kernel_rfl) (by kernel_rfl) rfl (by kernel_rfl) (by kernel_rfl) (by kernel_rfl) (fun _ _ _ h=>h) rfl rfl b (fun w' a=>by obtain⟨c,d,j,k⟩:=a;go_simp;try rfl) ?_;simp only[Act.put,sB,sZ,sS];refine aX (i:=1) 4 (pT P 0) (by kernel_rfl) (by kernel_rfl) rfl (by kernel_rfl) (by kernel_rfl) (by kernel_rfl) (fun _ _ _ h=>h) rfl rfl b (fun w' a=>by obtain⟨c,d,j,k⟩:=a;go_simp;try rfl) ?_;simp only[Act.put,sB,sZ,sS];refine aX (i:=2) 5 (pT P 0) (by kernel_rfl) (by kernel_rfl) rfl (by kernel_rfl) (by kernel_rfl) (by kernel_rfl) (fun _ _ _ h=>h) rfl rfl b (fun w' a=>by obtain⟨c,d,j,k⟩:=a;go_simp;try rfl) ?_;simp only[Act.put,sB,sZ,sS];refine aX (i:=3) 6 (pT P 0) (by kernel_rfl) (by kernel_rfl) rfl (by kernel_rfl) (by kernel_rfl) (by kernel_rfl) (fun _ _ _ h=>h) rfl rfl b (fun w' a=>by obtain⟨c,d,j,k⟩:=a;go_simp;try rfl) ?_;simp only[Act.put,sB,sZ,sS];refine aX (i:=4) 7 (sL A.ra 0 l (l+A.rj.length)) (by kernel_rfl) (by kernel_rfl) rfl (by kernel_rfl) (by kernel_rfl) (by kernel_rfl) (fun _ _ _ h=>h) rfl rfl b (fun w' a=>by obtain⟨c,d,j,k⟩:=a;go_simp;try rfl) ?_;simp only[Act.put,sB,sZ,sS];refine aX (i:=5) 8 (iV t) (by kernel_rfl) (by kernel_rfl) rfl (by kernel_rfl) (by kernel_rfl) (by kernel_rfl) (fun _ _ _ h=>h) rfl rfl b (fun w' a=>by obtain⟨c,d,j,k⟩:=a;go_simp;try rfl) ?_;simp only[Act.put,sB,sZ,sS];refine aX (i:=6) 9 (pT A.ra (t*2)) (by kernel_rfl) (by kernel_rfl) rfl (by kernel_rfl) (by kernel_rfl) (by kernel_rfl) (fun _ _ _ h=>h) rfl rfl b (fun w' a=>by obtain⟨c,d,j,k⟩:=a;go_simp;try rfl) ?_;simp only[Act.put,sB,sZ,sS];refine aX (i:=7) 10 (pT A.ra (t*2+1)) (by kernel_rfl) (by kernel_rfl) rfl (by kernel_rfl) (by kernel_rfl) (by kernel_rfl) (fun _ _ _ h=>h) rfl rfl b (fun w' a=>by obtain⟨c,d,j,k⟩:=a;go_simp;try rfl) ?_;simp only[Act.put,sB,sZ,sS];refine aX (i:=8) 11 (.string key) (by kernel_rfl) (by kernel_rfl) rfl (by kernel_rfl) (by kernel_rfl) (by kernel_rfl) (fun _ _ _ h=>h) rfl rfl b (fun w' a=>by obtain⟨c,d,j,k⟩:=a;go_simp;try rfl) ?_;simp only[Act.put,sB,sZ,sS];refine oE 9 rfl fun K2 B=>?_;go_simp;have R:Bl w w.drew:=(bQ _ _).drew;refine(aGK (K:=K) w.drew ρ P A f [] t H key (C.below R) D I O M X J (by simpa using Q)).mono ?_;intro e Y y;cases o:bX f t H key with
 | none=>
  obtain⟨rfl,ρ6,u,g,v,T,m,N⟩:=y.no o;refine⟨rfl,fun _=>⟨rfl,ρ6,u,g,v,T,⟨(Frm.drew _ w).trans m.ae,fun x z=>m.bu x z id⟩,N⟩,fun g h=>by rw[o]at h;cases h⟩
 | some g=>
  obtain⟨rfl,ρ6,u,v,p,E⟩:=y.yes g o;have m:=p.mv;have G:Hid (ChP (25*(H+3)) (fun _=>False) (K+20*(H+3)) (fun _ _=>True) w ρ P f (some g) (.returned (.tuple #[])) Y):=by
   refine⟨fun q=>(by cases q),fun g' q=>?_⟩;cases q;exact⟨rfl,ρ6,u,v,p.st,⟨(Frm.drew _ w).trans m.ae,fun x z=>m.bu x z id⟩,p.js,E,trivial⟩
  clear p E y;refine B _ _ (fun q=>absurd rfl q) ?_;clear B K2;refine aT (by kernel_rfl) ?_ _;go_wp2;first | go_end0 | refine bodyPost_ret (results_none rfl _ _ _) rfl ?_
  rw[o];exact G.out
abbrev An:=Int×Int×ByteArray
def bZ(a:An):Value:=.agg #[iV a.1,iV a.2.1,.string a.2.2]
def kQ(f:fZ)(t:Nat)(key val:ByteArray):fZ×An:=match put f t (hOf f t) key val with
 | none=>(f,7,0,.empty)
 | some (g,th)=>if fR g.c g.m<2*fS g.c.length then(f,7,0,.empty)else(g,0,if th then 1 else 0,.empty)
def kV(f:fZ)(t:Nat)(key:ByteArray):fZ×An:=match Fo.find f.n (hOf f t) (aB f t) key with
 | none=>(f,9,0,.empty)
 | some v=>match bX f t (hOf f t) key with
  | none=>(f,7,0,.empty)
  | some g=>if fR g.c g.m<2*fS g.c.length then(f,7,0,.empty)else(g,0,0,v)
def kP(f:fZ)(t:Nat):fZ×An:=if 16<=f.r.length\/65535<=f.next then(f,4,0,.empty)else(cS f t,0,f.next,.empty)
def mG(f:fZ)(t:Nat):fZ×An:=if f.r.length=1 then(f,18,0,.empty)else((drop f t (hOf f t)).1,0,(drop f t (hOf f t)).2,.empty)
def mH(f:fZ)(t:Nat)(key:ByteArray):fZ×An:=match Fo.find f.n (hOf f t) (aB f t) key with
 | none=>(f,9,0,.empty)
 | some v=>(f,0,0,v)
structure DoP(w:World)(ρ:Nat->Nat)(P:Nat)(r:fZ×An)(e:Ending)(w':World):Prop where
 e:e=.returned (bZ r.2)
 ex:∃ρ' A' J',St w' ρ' P A' r.1 J'/\Frm (fun k=>ρ k≠0) w w'/\∀x,x<w.heap.size->ρ x=0->ρ' x=0
theorem jS(W:World)(c:Int):(Instr.build 31 #[(0,iV c)]).run Tryz.prog W=.ok (.agg #[iV c,iV 0,.string .empty]) W:=by kernel_rfl
theorem qY(W:World)(c:Int):(Instr.build 31 #[(1,iV c)]).run Tryz.prog W=.ok (.agg #[iV 0,iV c,.string .empty]) W:=by kernel_rfl
theorem qZ(W:World)(v:ByteArray):(Instr.build 31 #[(2,.string v)]).run Tryz.prog W=.ok (.agg #[iV 0,iV 0,.string v]) W:=by kernel_rfl
theorem St.bT{w:World}{ρ:Nat->Nat}{P:Nat}{A:Adr}{f:fZ}{J:List aS}(h:St w ρ P A f J){x:Nat}(hx:w.heap.size<=x):ρ x=0:=Decidable.byContradiction fun q=>by
 obtain⟨_,_,_,a,_⟩:=id h;exact absurd (a.own x q) (by omega)
theorem fI(w:World)(g:Nat)(a b c:Value):Frm (fun x=>x=g) w (((w.setCell (aD g 0) a).setCell (aD g 1) b).setCell (aD g 2) c):=
 ((Frm.set (S:=fun x=>x=g) w (p:=aD g 0) rfl _).trans (Frm.set (S:=fun x=>x=g) _ (p:=aD g 1) rfl _)).trans (Frm.set (S:=fun x=>x=g) _ (p:=aD g 2) rfl _)
theorem aIK(w:World)(ρ:Nat->Nat)(P:Nat)(A:Adr)(f:fZ)(J:List aS)(t:Nat)(key val:ByteArray)(h:St w ρ P A f J)(I:Inv f)(ht:t<f.r.length):
  Calls Tryz.prog 54 #[pT P 0,iV t,.agg #[.string key,.string val]] w (DoP w ρ P (kQ f t key val)):=by
 have OS:∀(fn:Fn) (first cap:Array Value) (w:World),(Instr.makeFunc fn first cap).run Tryz.prog w=.ok (.func fn first cap) w:=fun _ _ _ _=>rfl;have il:=jS;have ao:=qY;obtain⟨hW,ei,hH⟩:=I.hOf ht;obtain⟨H,Y⟩:=eZ (hOf f t);obtain⟨w1,bx⟩:=eZ (w.alloc (.cells #[pT P 0] 61));obtain⟨w2,de⟩:=eZ (w1.alloc (.cells #[iV t] 3));obtain⟨w3,di⟩:=eZ (w2.alloc (.cells #[.string key,.string val] 121));obtain⟨w4,ci⟩:=eZ (w3.alloc (.cells #[iV 0,iV 0,.string {data:=#[]}] 31));obtain⟨b,tu⟩:=eZ (w4.alloc (.cells #[.bool false] 4));obtain⟨M,uj⟩:=eZ (w.heap.size);obtain⟨T,rk⟩:=eZ (w1.heap.size);obtain⟨U,P6⟩:=eZ (w2.heap.size);obtain⟨c,fy⟩:=eZ (w3.heap.size);obtain⟨a,QD⟩:=eZ (w4.heap.size);have X:∀(u:World) (o:Obj) (v:World),u.alloc o=v->Bl u v/\v.heap.size=u.heap.size+1:=fun u o v e=>by rw[<-e];exact⟨(bQ _ u).alloc (nR _) _,by simp⟩
 have V:∀(u:World) (cs:Array Value) (ty:TypeId) (v:World),u.alloc (.cells cs ty)=v->IsC v u.heap.size cs ty:=fun u cs ty v e=>by rw[<-e];exact IsC.new _ _ _
 obtain⟨B1,s1⟩:=X _ _ _ bx;obtain⟨B2,s2⟩:=X _ _ _ de;obtain⟨B3,s3⟩:=X _ _ _ di;obtain⟨B4,s4⟩:=X _ _ _ ci;obtain⟨B5,s5⟩:=X _ _ _ tu;have R:Bl w3 b:=B4.trans (B5.mono (by omega));have Q:Bl w2 b:=B3.trans (R.mono (by omega));have O:Bl w1 b:=B2.trans (Q.mono (by omega));have d:Bl w b:=B1.trans (O.mono (by omega));have z1:IsC b M #[pT P 0] 61:=by have:=V _ _ _ _ bx;rw[<-uj];exact this.of (O.block _ this.lt)
 have z2:IsC b T #[iV t] 3:=by have:=V _ _ _ _ de;rw[<-rk];exact this.of (Q.block _ this.lt)
 have z3:IsC b U #[.string key,.string val] 121:=by have:=V _ _ _ _ di;rw[<-P6];exact this.of (R.block _ this.lt)
 have z4:IsC b c #[iV 0,iV 0,.string {data:=#[]}] 31:=by have:=V _ _ _ _ ci;rw[<-fy];exact this.of (B5.block _ this.lt)
 have z5:IsC b a #[.bool false] 4:=by have:=V _ _ _ _ tu;rw[<-QD];exact this
 have G:w.heap.size<=M/\w.heap.size<=T/\w.heap.size<=U/\w.heap.size<=c/\w.heap.size<=a/\c≠a/\M≠a/\T≠a/\U≠a:=by omega
 have k0:b.cell? (aD a 0)=some (.bool false):=z5.c rfl;have k0':=z5.frozen 0;obtain⟨N,so⟩:=eZ (b.setCell (aD a 0) (.bool false));have m:Frm (fun x=>x=a) b N:=by rw[<-so];exact Frm.set (S:=fun x=>x=a) b (p:=aD a 0) rfl _
 have c1:=z1.ae m (by omega);have c2:=z2.ae m (by omega);have c3:=z3.ae m (by omega);have c4:=z4.ae m (by omega);have c5:IsC N a #[.bool false] 4:=by
  have:=z5.set 0 (.bool false)
  rw[so]at this;exact this
 have B:Bl w N:=⟨m.os.trans d.os,m.tape.trans d.tape,m.output.trans d.output,lT d.size m.size,fun k hk=>(m.block k (by omega) (by omega)).trans (d.block k hk)⟩;have cy:=h.below B;have k1:N.cell? (aD M 0)=some (pT P 0):=c1.c rfl;have kg:=rJ (K:=2576) (L:=2576+10*(H+3)) (13*(H+3)) (fun x=>x=a) (aNN f t H key val a) 80 #[pT M 0,pT T 0,pT U 0,pT a 0] N ρ P A f J ((put f t H key val).map Prod.fst) cy I.sz (by omega) (by omega) I.ne I.br
  (fun x e=>by rw[e];exact⟨c5.lt,h.bT G.2.2.2.2.1⟩) (fun g h1 h2 hh ⟨z,E,F⟩=>⟨z,E,by rw[<-hh _ c5.lt];exact F⟩) (fun _ _=>rfl)
  (fun W hF hS=>by
   have hP:P<w.heap.size:=by obtain⟨_,_,_,q,_⟩:=id h;exact q.hP.lt
   rw[Y]at hW ei hH;exact aFJ (K:=2576) W ρ P A f t H key val M T U a false hS hW ei I.sz (by omega) (by omega) (by omega) (c1.ae hF (by omega)) (c2.ae hF (by omega)) (c3.ae hF (by omega)) (c5.ae hF (by omega)) ⟨h.bT G.1,h.bT G.2.1,h.bT G.2.2.1,h.bT G.2.2.2.2.1⟩ I.br)
 have HS:=aA (aI s1 (aI s2 (aI s3 (aI s4 s5))));clear s1 s2 s3 s4 s5;go_enter Tryz.func54,Tryz.ntmps54;go_wp2_with fail;refine kg.mono ?_;rintro e n ⟨rfl,⟨ρ7,A7,J7,s7,f7,r7⟩,t7⟩;have yj:ρ c=0:=h.bT G.2.2.2.1;have Lf:c<N.heap.size:=c4.lt;have D:IsC n c #[iV 0,iV 0,.string {data:=#[]}] 31:=c4.ae f7 (fun q=>q.elim (fun q=>q yj) (fun q=>G.2.2.2.2.2.1 q));have e0:n.cell? (aD c 0)=some (iV 0):=D.c rfl;have E:n.cell? (aD c 1)=some (iV 0):=D.c rfl;have F:n.cell? (aD c 2)=some (.string {data:=#[]}):=D.c rfl;have q0:=D.frozen 0;have q1:=D.frozen 1;have q2:=D.frozen 2;have Z:Hid (∀(r:fZ×An) (w8:World),r.1=(jE f ((put f t H key val).map Prod.fst)).1->Frm (fun x=>x=c) n w8->DoP w ρ P r (.returned (bZ r.2)) w8):=fun r w8 l hF=>by
  refine⟨rfl,ρ7,A7,J7,?_,?_,fun x hx h0=>r7 x (lL hx B.size) h0⟩
  ·rw[l];exact s7.ae (hF.wide fun x _ e=>by rw[e];exact r7 c Lf yj)
  ·exact((Frm.aa B).next f7 fun x hx q=>q.elim id fun q=>absurd q (by omega)).next hF fun x hx q=>absurd q (by omega)
 have hIW:Hid (Frm (fun x=>x=c) n n):=Frm.refl _ _;cases i:put f t H key val with
 | none=>
  have s:kQ f t key val=(f,7,0,.empty):=by unfold kQ;rw[Y,i]
  have l:f=(jE f ((put f t H key val).map Prod.fst)).1:=by rw[i];rfl
  have hc:(jE f ((none:Option (fZ×Bool)).map Prod.fst)).2=7:=rfl;rw[hc];have j:=aA (aI s l);clear s l hc i;go_wp2;refine bodyPost_ret (v:=bZ (7,0,.empty)) (by simp[bZ,results,Tryz.results54,go_sem,e0,E,F];try rfl) rfl ?_;rw[j.out.1];exact Z.out (f,7,0,ByteArray.empty) _ j.out.2 (fI _ _ _ _ _)
 | some gt=>
  obtain⟨g,z⟩:=gt;by_cases C:fR g.c g.m<2*fS g.c.length
  ·have s:kQ f t key val=(f,7,0,.empty):=by unfold kQ;rw[Y,i];simp only;rw[if_pos C]
   have y:jE f (((some (g,z)):Option (fZ×Bool)).map Prod.fst)=(f,7):=by show(if fR g.c g.m<2*fS g.c.length then(f,(7:Int))else(g,0))=_;rw[if_pos C]
   have l:f=(jE f ((put f t H key val).map Prod.fst)).1:=by rw[i,y]
   rw[y];have j:=aA (aI s l);clear s l y i C t7;go_wp2;refine bodyPost_ret (v:=bZ (7,0,.empty)) (by simp[bZ,results,Tryz.results54,go_sem,e0,E,F];try rfl) rfl ?_;rw[j.out.1];exact Z.out (f,7,0,ByteArray.empty) _ j.out.2 (fI _ _ _ _ _)
  ·have s:kQ f t key val=(g,0,if z then 1 else 0,.empty):=by unfold kQ;rw[Y,i];simp only;rw[if_neg C]
   have y:jE f (((some (g,z)):Option (fZ×Bool)).map Prod.fst)=(g,0):=by show(if fR g.c g.m<2*fS g.c.length then(f,(7:Int))else(g,0))=_;rw[if_neg C]
   have l:g=(jE f ((put f t H key val).map Prod.fst)).1:=by rw[i,y]
   rw[i,y]at t7;obtain⟨th',y1,y2⟩:=t7 rfl;rw[i]at y1;cases y1;have ct:n.cell? (aD a 0)=some (.bool z):=by rw[(show IsC n a #[.bool z] 4 from y2).cell];rfl
   rw[y];have j:=aA (aI s l);clear s l y i C t7 y2;cases z with
   | true=>
    go_wp2
    refine bodyPost_ret (v:=bZ (0,1,.empty)) (by simp[bZ,results,Tryz.results54,go_sem,e0,E,F];try rfl) rfl ?_;rw[j.out.1];exact Z.out (g,0,1,ByteArray.empty) _ j.out.2 (fI _ _ _ _ _)
   | false=>
    go_wp2
    refine bodyPost_ret (v:=bZ (0,0,.empty)) (by simp[bZ,results,Tryz.results54,go_sem,e0,E,F];try rfl) rfl ?_;rw[j.out.1];exact Z.out (g,0,0,ByteArray.empty) _ j.out.2 (fI _ _ _ _ _)
theorem St.bP{w:World}{ρ:Nat->Nat}{P:Nat}{A:Adr}{f:fZ}{J:List aS}(h:St w ρ P A f J)(b:IC f){t:Nat}(ht:t<f.r.length):w.cell? (aD A.ra (t*2+1))=some (iV (aB f t)):=by
 have a:0<=(f.r.getD t (0,0)).2:=(b.rb _ (aQ ht)).1;exact(h.bh ht a).1
theorem yY(w:World)(ρ:Nat->Nat)(P:Nat)(A:Adr)(f:fZ)(J:List aS)(t:Nat)(key:ByteArray)(h:St w ρ P A f J)(k:Inv f)(ht:t<f.r.length):
  Calls Tryz.prog 55 #[pT P 0,iV t,.string key] w (DoP w ρ P (kV f t key)):=by
 have OS:∀(fn:Fn) (first cap:Array Value) (w:World),(Instr.makeFunc fn first cap).run Tryz.prog w=.ok (.func fn first cap) w:=fun _ _ _ _=>rfl;have il:=jS;have be:=qZ;obtain⟨Z,ei,hH⟩:=k.hOf ht;obtain⟨H,CH⟩:=eZ (hOf f t);rw[CH]at Z ei hH;obtain⟨w1,bx⟩:=eZ (w.alloc (.cells #[pT P 0] 61));obtain⟨w2,de⟩:=eZ (w1.alloc (.cells #[iV t] 3));obtain⟨w3,di⟩:=eZ (w2.alloc (.cells #[.string key] 9));obtain⟨b,ci⟩:=eZ (w3.alloc (.cells #[iV 0,iV 0,.string {data:=#[]}] 31));obtain⟨p,uj⟩:=eZ (w.heap.size);obtain⟨z,rk⟩:=eZ (w1.heap.size);obtain⟨E,AA⟩:=eZ (w2.heap.size);obtain⟨a,fy⟩:=eZ (w3.heap.size);have oz:∀(u:World) (o:Obj) (v:World),u.alloc o=v->Bl u v/\v.heap.size=u.heap.size+1:=fun u o v e=>by rw[<-e];exact⟨(bQ _ u).alloc (nR _) _,by simp⟩
 have o8:∀(u:World) (cs:Array Value) (ty:TypeId) (v:World),u.alloc (.cells cs ty)=v->IsC v u.heap.size cs ty:=fun u cs ty v e=>by rw[<-e];exact IsC.new _ _ _
 obtain⟨B1,s1⟩:=oz _ _ _ bx;obtain⟨B2,s2⟩:=oz _ _ _ de;obtain⟨B3,s3⟩:=oz _ _ _ di;obtain⟨B4,s4⟩:=oz _ _ _ ci;have M:Bl w2 b:=B3.trans (B4.mono (by omega));have I:Bl w1 b:=B2.trans (M.mono (by omega));have F:Bl w b:=B1.trans (I.mono (by omega));have V:IsC b p #[pT P 0] 61:=by have:=o8 _ _ _ _ bx;rw[<-uj];exact this.of (I.block _ this.lt)
 have X:IsC b z #[iV t] 3:=by have:=o8 _ _ _ _ de;rw[<-rk];exact this.of (M.block _ this.lt)
 have Y:IsC b E #[.string key] 9:=by have:=o8 _ _ _ _ di;rw[<-AA];exact this.of (B4.block _ this.lt)
 have c4:IsC b a #[iV 0,iV 0,.string {data:=#[]}] 31:=by have:=o8 _ _ _ _ ci;rw[<-fy];exact this
 have G:w.heap.size<=p/\w.heap.size<=z/\w.heap.size<=E/\w.heap.size<=a:=by omega
 have av:=h.below F;obtain⟨_,_,_,mm,_⟩:=id av;have fu:((t:Nat):Int) <(f.r.length:Int):=by omega
 have Qb:=aA ((aDS (K:=2576) b.drew ρ P A f J H (aB f t) none none key (av.below (bQ _ _).drew) k.ic Z.ok k.sz).mono (fun e w' hw=>aI hw.1 (show Bl b w' from(bQ _ b).drew.trans hw.2)));have S:∀W:World,Bl b W->W.cell? (aD p 0)=some (pT P 0)/\W.cell? (aD P 0)=some (sL A.ra 0 f.r.length (f.r.length+A.rj.length))/\W.cell? (aD z 0)=some (iV t)/\W.cell? (aD A.ra (t*2+1))=some (iV (aB f t))/\W.cell? (aD E 0)=some (.string key):=fun W R=>by
  refine⟨?_,?_,?_,?_,?_⟩
  ·rw[R.cell V.lt,V.cell];rfl
  ·rw[R.cell mm.hP.lt,mm.hP.cell];rfl
  ·rw[R.cell X.lt,X.cell];rfl
  ·exact(av.below R).bP k.ic ht
  ·rw[R.cell Y.lt,Y.cell];rfl
 have Xa:=aA S;have HS:=aA (aI s1 (aI s2 (aI s3 s4)));obtain⟨y1,y2,y3,y4,y5⟩:=S b (bQ _ _);clear s1 s2 s3 s4 S;go_enter Tryz.func55,Tryz.ntmps55;go_wp2_with fail;go_region_held3 (fun W=>W.cell? (aD p 0)=some (pT P 0)/\W.cell? (aD P 0)=some (sL A.ra 0 f.r.length (f.r.length+A.rj.length))/\W.cell? (aD z 0)=some (iV t)/\W.cell? (aD A.ra (t*2+1))=some (iV (aB f t))/\W.cell? (aD E 0)=some (.string key)) (first | assumption | go_keep)
  ((go_at_call 82;refine Qb.out.mono ?_;rintro e n ⟨rfl,D⟩;have qg:=Xa.out _ D))
 clear qg y1 y2 y3 y4 y5;have j:Bl w n:=F.trans (D.mono (Nat.le_of_lt (by have:=HS.out;omega)));have cy:=h.below j;have d1:=V.of (D.block _ V.lt);have d2:=X.of (D.block _ X.lt);have d3:=Y.of (D.block _ Y.lt);have m:=c4.of (D.block _ c4.lt);have yj:ρ a=0:=h.bT G.2.2.2;cases T:Fo.find f.n H (aB f t) key with
 | none=>
  have e0:n.cell? (aD a 0)=some (iV 0):=m.c rfl;have O:n.cell? (aD a 1)=some (iV 0):=m.c rfl;have Q:n.cell? (aD a 2)=some (.string {data:=#[]}):=m.c rfl;have q0:=m.frozen 0;have q1:=m.frozen 1;have q2:=m.frozen 2;have d:Hid (kV f t key=(f,9,0,.empty)):=by unfold kV;rw[CH,T];rfl
  have N:Hid (∀y:World,Frm (fun x=>x=a) n y->DoP w ρ P (f,9,0,.empty) (.returned (bZ (9,0,.empty))) y):=fun y hF=>
   ⟨rfl,ρ,A,J,cy.ae (hF.wide fun x _ e=>by rw[e];exact yj),(Frm.aa j).next hF fun x hx q=>absurd q (by omega),fun x _ h0=>h0⟩
  clear T;go_wp2;refine bodyPost_ret (v:=bZ (9,0,.empty)) (by simp[bZ,results,Tryz.results55,go_sem,e0,O,Q];try rfl) rfl ?_;rw[d.out];exact N.out _ (fI _ _ _ _ _)
 | some v=>
  have kv:=jM Z.ok T;have k1:n.cell? (aD p 0)=some (pT P 0):=d1.c rfl;have kg:=rJ (K:=2576) (L:=2576+20*(H+3)) (25*(H+3)) (fun _=>False) (fun _ _=>True) 83 #[pT p 0,pT z 0,pT E 0] n ρ P A f J (bX f t H key) cy k.sz (by omega) (by omega) k.ne k.br
   (fun x e=>e.elim) (fun g h1 h2 hh _=>trivial) (fun _ _=>rfl)
   (fun W hF S=>by
    have hP:P<w.heap.size:=by obtain⟨_,_,_,q,_⟩:=id h;exact q.hP.lt
    exact wU (K:=2576) W ρ P A f t H key p z E S Z ei kv k.sz (by omega) (by omega) (by omega) (d1.ae hF (by omega)) (d2.ae hF (by omega)) (d3.ae hF (by omega)) k.br)
  have PP:=aA T;clear T;go_wp2_with fail;refine kg.mono ?_;rintro e U ⟨rfl,⟨ρ7,A7,J7,s7,f7,r7⟩,-⟩;have C:IsC U a #[iV 0,iV 0,.string {data:=#[]}] 31:=m.ae f7 (fun q=>q.elim (fun q=>q yj) id);have e0:U.cell? (aD a 0)=some (iV 0):=C.c rfl;have O:U.cell? (aD a 1)=some (iV 0):=C.c rfl;have Q:U.cell? (aD a 2)=some (.string {data:=#[]}):=C.c rfl;have q0:=C.frozen 0;have q1:=C.frozen 1;have q2:=C.frozen 2;have Lf:a<n.heap.size:=m.lt;have N:Hid (∀(r:fZ×An) (y:World),r.1=(jE f (bX f t H key)).1->Frm (fun x=>x=a) U y->DoP w ρ P r (.returned (bZ r.2)) y):=fun r y i hF=>by
   refine⟨rfl,ρ7,A7,J7,?_,?_,fun x hx h0=>r7 x (lL hx j.size) h0⟩
   ·rw[i];exact s7.ae (hF.wide fun x _ e=>by rw[e];exact r7 a Lf yj)
   ·exact((Frm.aa j).next f7 fun x hx q=>q.elim id False.elim).next hF fun x hx q=>absurd q (by omega)
  have c:kV f t key=match bX f t H key with
   | none=>(f,7,0,.empty)
   | some g=>if fR g.c g.m<2*fS g.c.length then(f,7,0,.empty)else(g,0,0,v):=by unfold kV;rw[CH,PP.out]<;>rfl
  cases l:bX f t H key with
  | none=>
   have i:f=(jE f (bX f t H key)).1:=by rw[l];rfl
   have hc:(jE f none).2=7:=rfl;rw[l]at c;rw[hc];have d:=aA (aI c i);clear c i hc l;go_wp2;refine bodyPost_ret (v:=bZ (7,0,.empty)) (by simp[bZ,results,Tryz.results55,go_sem,e0,O,Q];try rfl) rfl ?_;rw[d.out.1];exact N.out (f,7,0,ByteArray.empty) _ d.out.2 (fI _ _ _ _ _)
  | some g=>
   rw[l]at c;simp only at c;by_cases B:fR g.c g.m<2*fS g.c.length
   ·rw[if_pos B]at c
    have s:jE f (some g)=(f,7):=by show(if fR g.c g.m<2*fS g.c.length then(f,(7:Int))else(g,0))=_;rw[if_pos B]
    have i:f=(jE f (bX f t H key)).1:=by rw[l,s]
    rw[s];have d:=aA (aI c i);clear c i s l B;go_wp2;refine bodyPost_ret (v:=bZ (7,0,.empty)) (by simp[bZ,results,Tryz.results55,go_sem,e0,O,Q];try rfl) rfl ?_;rw[d.out.1];exact N.out (f,7,0,ByteArray.empty) _ d.out.2 (fI _ _ _ _ _)
   ·rw[if_neg B]at c
    have s:jE f (some g)=(g,0):=by show(if fR g.c g.m<2*fS g.c.length then(f,(7:Int))else(g,0))=_;rw[if_neg B]
    have i:g=(jE f (bX f t H key)).1:=by rw[l,s]
    rw[s];have d:=aA (aI c i);clear c i s l B;go_wp2;refine bodyPost_ret (v:=bZ (0,0,v)) (by simp[bZ,results,Tryz.results55,go_sem,e0,O,Q];try rfl) rfl ?_;rw[d.out.1];exact N.out (g,0,0,v) _ d.out.2 (fI _ _ _ _ _)
theorem aIJ(w:World)(ρ:Nat->Nat)(P:Nat)(A:Adr)(f:fZ)(J:List aS)(t:Nat)(key:ByteArray)(h:St w ρ P A f J)(d:Inv f)(ht:t<f.r.length):
  Calls Tryz.prog 59 #[pT P 0,iV t,.string key] w (DoP w ρ P (mH f t key)):=by
 have Q:=jS;have M:=qZ;obtain⟨B,E,G⟩:=d.hOf ht;obtain⟨H,j⟩:=eZ (hOf f t);rw[j]at B E G;obtain⟨c,y⟩:=eZ (w.heap.size);obtain⟨C,p⟩:=eZ (w.alloc (.cells #[iV 0,iV 0,.string {data:=#[]}] 31));have B4:=bAl p;have o:=iNw p y;have l:=h.below B4;obtain⟨_,_,_,I,_⟩:=id l;have N:((t:Nat):Int) <(f.r.length:Int):=by omega
 have U:C.cell? (aD P 0)=some (sL A.ra 0 f.r.length (f.r.length+A.rj.length)):=by rw[I.hP.cell];rfl
 have V:=l.bP d.ic ht;go_enter Tryz.func59,Tryz.ntmps59;go_wp2_with fail;refine(aDS (K:=2576) C ρ P A f J H (aB f t) none none key l d.ic B.ok d.sz).mono ?_;rintro e i ⟨rfl,z⟩;have b:=B4.trans (z.mono B4.size);have D:=h.below b;have a:=o.of (z.block _ o.lt);have L:ρ c=0:=h.bT (Nat.le_of_eq y);have e0:i.cell? (aD c 0)=some (iV 0):=a.c rfl;have s:i.cell? (aD c 1)=some (iV 0):=a.c rfl;have u:i.cell? (aD c 2)=some (.string {data:=#[]}):=a.c rfl;have R:=a.frozen 0;have S:=a.frozen 1;have T:=a.frozen 2;have n:Hid (∀(r:An) (m:World),Frm (fun x=>x=c) i m->DoP w ρ P (f,r) (.returned (bZ r)) m):=fun r m hF=>
  ⟨rfl,ρ,A,J,D.ae (hF.wide fun x _ e=>by rw[e];exact L),(Frm.aa b).next hF fun x O q=>absurd q (by omega),fun x _ F=>F⟩
 cases g:Fo.find f.n H (aB f t) key with
 | none=>
  have k:Hid (mH f t key=(f,9,0,.empty)):=by unfold mH;rw[j,g];rfl
  clear g;go_wp2;refine bodyPost_ret (v:=bZ (9,0,.empty)) (by simp[bZ,results,Tryz.results59,go_sem,e0,s,u];try rfl) rfl ?_;rw[k.out];exact n.out _ _ (fI _ _ _ _ _)
 | some v=>
  have k:Hid (mH f t key=(f,0,0,v)):=by unfold mH;rw[j,g];rfl
  clear g;go_wp2;refine bodyPost_ret (v:=bZ (0,0,v)) (by simp[bZ,results,Tryz.results59,go_sem,e0,s,u];try rfl) rfl ?_;rw[k.out];exact n.out _ _ (fI _ _ _ _ _)
theorem aBS(w:World)(ρ:Nat->Nat)(P:Nat)(A:Adr)(f:fZ)(J:List aS)(t:Nat)(h:St w ρ P A f J)(n:Inv f)(ht:t<f.r.length):
  Calls Tryz.prog 56 #[pT P 0,iV t] w (DoP w ρ P (kP f t)):=by
 have S:=jS;have Q:=qY;obtain⟨a,B⟩:=eZ (w.heap.size);obtain⟨c,z⟩:=eZ (w.alloc (.cells #[iV 0,iV 0,.string {data:=#[]}] 31));have B4:=bAl z;have b:=iNw z B;have k:=h.below B4;obtain⟨_,_,_,C,_⟩:=id k;have R:((t:Nat):Int) <(f.r.length:Int):=by omega
 have U:c.cell? (aD P 0)=some (sL A.ra 0 f.r.length (f.r.length+A.rj.length)):=by rw[C.hP.cell];rfl
 have V:c.cell? (aD P 1)=some (iV f.next):=by rw[C.hP.cell];rfl
 have W:=k.bP n.ic ht;have u:ρ a=0:=h.bT (Nat.le_of_eq B);have e0:c.cell? (aD a 0)=some (iV 0):=b.c rfl;have l:c.cell? (aD a 1)=some (iV 0):=b.c rfl;have m:c.cell? (aD a 2)=some (.string {data:=#[]}):=b.c rfl;have L:=b.frozen 0;have M:=b.frozen 1;have N:=b.frozen 2;have y:Hid (∀(r:An) (d:World),Frm (fun x=>x=a) c d->DoP w ρ P (f,r) (.returned (bZ r)) d):=fun r d hF=>
  ⟨rfl,ρ,A,J,k.ae (hF.wide fun x _ e=>by rw[e];exact u),(Frm.aa B4).next hF fun x s q=>absurd q (by omega),fun x _ p=>p⟩
 have T:=n.nx;by_cases I:16<=f.r.length
 ·have i:Hid (kP f t=(f,4,0,.empty)):=by unfold kP;rw[if_pos (.inl I)];rfl
  have G:(16:Int)<=(f.r.length:Int):=by omega
  go_enter Tryz.func56,Tryz.ntmps56
  go_wp2
  refine bodyPost_ret (v:=bZ (4,0,.empty)) (by simp[bZ,results,Tryz.results56,go_sem,e0,l,m];try rfl) rfl ?_;rw[i.out];exact y.out _ _ (fI _ _ _ _ _)
 ·have G:¬(16:Int)<=(f.r.length:Int):=by omega
  by_cases H:65535<=f.next
  ·have i:Hid (kP f t=(f,4,0,.empty)):=by unfold kP;rw[if_pos (.inr H)];rfl
   go_enter Tryz.func56,Tryz.ntmps56
   go_wp2
   refine bodyPost_ret (v:=bZ (4,0,.empty)) (by simp[bZ,results,Tryz.results56,go_sem,e0,l,m];try rfl) rfl ?_;rw[i.out];exact y.out _ _ (fI _ _ _ _ _)
  ·have i:Hid (kP f t=(cS f t,0,f.next,.empty)):=by unfold kP;rw[if_neg (by omega)];rfl
   go_enter Tryz.func56,Tryz.ntmps56
   go_wp2_with fail
   refine(aHW (K:=2576) c ρ P A f J t k n.ic n.sz (by omega) ht (by omega) ⟨by omega,by omega⟩).mono ?_;rintro e j ⟨rfl,ρ5,E,D,o⟩;have g:IsC j a #[iV 0,iV 0,.string {data:=#[]}] 31:=b.ae o.ae (fun q=>q.elim (fun q=>q u) id);have F:ρ5 a=0:=by rw[o.bu a b.lt id];exact u
   have e0:j.cell? (aD a 0)=some (iV 0):=g.c rfl;have l:j.cell? (aD a 1)=some (iV 0):=g.c rfl;have m:j.cell? (aD a 2)=some (.string {data:=#[]}):=g.c rfl;have L:=g.frozen 0;have M:=g.frozen 1;have N:=g.frozen 2;have O:Hid (∀(d:World),Frm (fun x=>x=a) j d->DoP w ρ P (cS f t,0,f.next,.empty) (.returned (bZ (0,f.next,.empty))) d):=fun d hF=>
    ⟨rfl,ρ5,E,J,D.ae (hF.wide fun x _ e=>by rw[e];exact F),((Frm.aa B4).next o.ae fun x _ q=>q.elim id False.elim).next hF fun x s q=>absurd q (by omega),fun x s p=>by rw[o.bu x (lL s B4.size) id,p]⟩
   clear D;go_wp2;refine bodyPost_ret (v:=bZ (0,f.next,.empty)) (by simp[bZ,results,Tryz.results56,go_sem,e0,l,m];try rfl) rfl ?_;rw[i.out];exact O.out _ (fI _ _ _ _ _)
theorem aFI(w:World)(ρ:Nat->Nat)(P:Nat)(A:Adr)(f:fZ)(J:List aS)(t:Nat)(h:St w ρ P A f J)(l:Inv f)(ht:t<f.r.length):
  Calls Tryz.prog 57 #[pT P 0,iV t] w (DoP w ρ P (mG f t)):=by
 have Y:=jS;have X:=qY;obtain⟨E,Q,S⟩:=l.hOf ht;obtain⟨H,B⟩:=eZ (hOf f t);rw[B]at E Q S;obtain⟨a,D⟩:=eZ (w.heap.size);obtain⟨c,C⟩:=eZ (w.alloc (.cells #[iV 0,iV 0,.string {data:=#[]}] 31));have B4:=bAl C;have b:=iNw C D;have n:=h.below B4;obtain⟨_,_,_,F,_⟩:=id n;have R:((t:Nat):Int) <(f.r.length:Int):=by omega
 have Z:c.cell? (aD P 0)=some (sL A.ra 0 f.r.length (f.r.length+A.rj.length)):=by rw[F.hP.cell];rfl
 have y4:=n.bP l.ic ht;obtain⟨x,j⟩:=eZ ((f.r.getD t (0,0)).1);have y5:c.cell? (aD A.ra (t*2))=some (iV x):=by
  rw[F.hr.cell,(lK (f.r++A.rj) (i:=t) (by simp;omega)).1,dC,if_pos ht,j]
 have k:0<=(f.r.getD t (0,0)).2:=(l.ic.rb _ (aQ ht)).1;have O:f.r.getD t (0,0)=(x,(aB f t:Int)):=by
  unfold aB;rw[Int.toNat_of_nonneg k,<-j]
 have z:ρ a=0:=h.bT (Nat.le_of_eq D);have e0:c.cell? (aD a 0)=some (iV 0):=b.c rfl;have s:c.cell? (aD a 1)=some (iV 0):=b.c rfl;have u:c.cell? (aD a 2)=some (.string {data:=#[]}):=b.c rfl;have T:=b.frozen 0;have U:=b.frozen 1;have V:=b.frozen 2;have M:Hid (∀(r:An) (d:World),Frm (fun x=>x=a) c d->DoP w ρ P (f,r) (.returned (bZ r)) d):=fun r d hF=>
  ⟨rfl,ρ,A,J,n.ae (hF.wide fun x _ e=>by rw[e];exact z),(Frm.aa B4).next hF fun x j q=>absurd q (by omega),fun x _ k=>k⟩
 by_cases y:f.r.length=1
 ·have p:Hid (mG f t=(f,18,0,.empty)):=by unfold mG;rw[if_pos y];rfl
  have N:((f.r.length:Int) == 1)=true:=by rw[y];rfl
  clear R;go_enter Tryz.func57,Tryz.ntmps57;go_wp2;refine bodyPost_ret (v:=bZ (18,0,.empty)) (by simp[bZ,results,Tryz.results57,go_sem,e0,s,u];try rfl) rfl ?_;rw[p.out];exact M.out _ _ (fI _ _ _ _ _)
 ·have N:((f.r.length:Int) == 1)=false:=by simp;omega
  have p:Hid (mG f t=((drop f t H).1,0,(drop f t H).2,.empty)):=by unfold mG;rw[if_neg y,B];rfl
  go_enter Tryz.func57,Tryz.ntmps57
  go_wp2_with fail
  refine(aLT (K:=2576) c ρ P A f J t H x n l l.sz (by omega) ht E.ok O).mono ?_;rintro e m ⟨rfl,ρ5,I,G,o⟩;have g:IsC m a #[iV 0,iV 0,.string {data:=#[]}] 31:=b.ae o.ae (fun q=>q.elim (fun q=>q z) id);have L:ρ5 a=0:=by rw[o.bu a b.lt id];exact z
  have e0:m.cell? (aD a 0)=some (iV 0):=g.c rfl;have s:m.cell? (aD a 1)=some (iV 0):=g.c rfl;have u:m.cell? (aD a 2)=some (.string {data:=#[]}):=g.c rfl;have T:=g.frozen 0;have U:=g.frozen 1;have V:=g.frozen 2;have W:Hid (∀(d:World),Frm (fun x=>x=a) m d->DoP w ρ P ((drop f t H).1,0,(drop f t H).2,.empty) (.returned (bZ (0,(drop f t H).2,.empty))) d):=fun d hF=>
   ⟨rfl,ρ5,I,J,G.ae (hF.wide fun x _ e=>by rw[e];exact L),((Frm.aa B4).next o.ae fun x _ q=>q.elim id False.elim).next hF fun x j q=>absurd q (by omega),fun x j k=>by rw[o.bu x (lL j B4.size) id,k]⟩
  clear G;go_wp2;refine bodyPost_ret (v:=bZ (0,(drop f t H).2,.empty)) (by simp[bZ,results,Tryz.results57,go_sem,e0,s,u];try rfl) rfl ?_;rw[p.out];exact W.out _ (fI _ _ _ _ _)
section
variable {w w1 : World} {ρ : Nat -> Nat} {P : Nat} {A : Adr} {f : fZ} {J : List aS}
def tV(ρ:Nat->Nat)(g:Nat):Nat->Nat:=fun x=>if x=g then 5 else ρ x
theorem St.du(h:St w ρ P A f J){g:Nat}{com:List Int}{dj:List Value}(n:Bl w w1)(o:IsC w1 g (jG com dj) 2)(t:w.heap.size<=g)(G:com.length+dj.length<=maxLen):
  St (w1.setCell (aD P 5) (sL g 0 com.length (com.length+dj.length))) (tV ρ g) P {A with d:=g,dj:=dj} {f with m:=com} J/\Frm (fun x=>ρ x≠0) w (w1.setCell (aD P 5) (sL g 0 com.length (com.length+dj.length))):=by
 have i:ρ P=1:=by obtain⟨_,_,_,j,_⟩:=h;exact j.rP
 have B:∀x,ρ x≠0->x<w.heap.size:=by obtain⟨_,_,_,j,_⟩:=h;exact j.own
 have s:ρ g=0:=h.bT t;have z:g≠P:=fun e=>by rw[e,i]at s;omega
 have k:Frm (fun x=>x=P) w (w1.setCell (aD P 5) (sL g 0 com.length (com.length+dj.length))):=(Frm.aa n).trans (Frm.set (S:=fun x=>x=P) w1 (p:=aD P 5) rfl _);have l:∀x,ρ x≠0->tV ρ g x=ρ x:=fun x a=>by
  unfold tV;split
  ·rename_i e;rw[e]at a;exact absurd s a
  ·rfl
 have u:tV ρ g g=5:=by simp[tV]
 have c:∀{x r},ρ x=r->r≠1->¬x=P:=fun {x r} e D q=>D (by rw[<-e,q,i]);refine⟨h.of k (fun x e=>by rw[e,i];exact vL.2) (fun x _ a=>l x fun e=>by rw[e]at a;exact aDX a) fun F b=>?_,k.wide (fun x _ e=>by rw[e,i];omega)⟩;have C:Kp (fun x=>x=P) w ρ (w1.setCell (aD P 5) (sL g 0 com.length (com.length+dj.length))) (tV ρ g):=⟨k,fun x _ a=>l x a.1,fun x a=>by
  by_cases e:x=g
  ·rw[e];have:=o.lt;simpa using this
  ·have:ρ x≠0:=by unfold tV at a;rw[if_neg e]at a;exact a
   exact lL (B x this) k.size⟩
 have v:IsC w1 P (dH A f F) 67:=b.hP.of (n.block _ b.hP.lt);refine b.gen (A':={A with d:=g,dj:=dj}) (f':={f with m:=com}) C (.inr ?_) (.inl ⟨c b.rr (by omega),rfl,rfl⟩) (.inl ⟨c b.rm (by omega),rfl⟩) rfl (.inl ⟨c b.rc (by omega),rfl⟩) rfl (.inr ⟨o.set_ne _ z,u⟩) (fun x d a=>.inl ⟨a,rfl,rfl,fun y E=>?_⟩) b.no b.rs G
 ·have:=v.set 5 (sL g 0 com.length (com.length+dj.length))
  simpa [dH] using this
 ·rcases E with e | e
  ·exact c e (by unfold cK;omega)
  ·exact c e (by unfold cI;omega)
theorem St.c5(h:St w ρ P A f J){b:Nat}(v:Int)(j:b<f.m.length):St (w.setCell (aD A.d b) (iV v)) ρ P A {f with m:=f.m.set b v} J/\Frm (fun x=>x=A.d) w (w.setCell (aD A.d b) (iV v)):=by
 have g:ρ A.d=5:=by obtain⟨_,_,_,i,_⟩:=h;exact i.rd
 have k:Frm (fun x=>x=A.d) w (w.setCell (aD A.d b) (iV v)):=Frm.set (S:=fun x=>x=A.d) w (p:=aD A.d b) rfl _;have c:∀{x r},ρ x=r->r≠5->¬x=A.d:=fun {x r} e l q=>l (by rw[<-e,q,g]);refine⟨h.of k (fun x e=>by rw[e,g];exact aJB.2) (fun _ _ _=>rfl) fun s a=>?_,k⟩;refine a.gen (A':=A) (f':={f with m:=f.m.set b v}) (Kp.same a k) (.inl ⟨c a.rP (by omega),by simp[dH]⟩) (.inl ⟨c a.rr (by omega),rfl,rfl⟩) (.inl ⟨c a.rm (by omega),rfl⟩) rfl (.inl ⟨c a.rc (by omega),rfl⟩) rfl (.inr ⟨?_,g⟩) (fun x d n=>.inl ⟨n,rfl,rfl,fun y o=>?_⟩) a.no a.rs (by simpa using a.ds)
 ·have:=a.hd.set b (iV v)
  have e:(jG f.m A.dj).setIfInBounds b (iV v)=jG (f.m.set b v) A.dj:=by
   simp only[jG,List.setIfInBounds_toArray,List.map_set];rw[List.set_append_left _ _ (by simpa using j)]
  rw[e]at this;exact this
 ·rcases o with e | e
  ·exact c e (by unfold cK;omega)
  ·exact c e (by unfold cI;omega)
theorem St.dv(h:St w ρ P A f J)(v:Value)(p:List Int):St (w.setCell (aD P 6) v) ρ P {A with tv:=v} {f with table:=p} J/\Frm (fun x=>x=P) w (w.setCell (aD P 6) v):=by
 have c:ρ P=1:=by obtain⟨_,_,_,g,_⟩:=h;exact g.rP
 have k:Frm (fun x=>x=P) w (w.setCell (aD P 6) v):=Frm.set (S:=fun x=>x=P) w (p:=aD P 6) rfl _;have b:∀{x r},ρ x=r->r≠1->¬x=P:=fun {x r} e i q=>i (by rw[<-e,q,c]);refine⟨h.of k (fun x e=>by rw[e,c];exact vL.2) (fun _ _ _=>rfl) fun m a=>?_,k⟩;refine a.gen (A':={A with tv:=v}) (f':={f with table:=p}) (Kp.same a k) (.inr ?_) (.inl ⟨b a.rr (by omega),rfl,rfl⟩) (.inl ⟨b a.rm (by omega),rfl⟩) rfl (.inl ⟨b a.rc (by omega),rfl⟩) rfl (.inl ⟨b a.rd (by omega),rfl,rfl⟩) (fun x d j=>.inl ⟨j,rfl,rfl,fun y l=>?_⟩) a.no a.rs a.ds
 ·have:=a.hP.set 6 v
  simpa [dH] using this
 ·rcases l with e | e
  ·exact b e (by unfold cK;omega)
  ·exact b e (by unfold cI;omega)
end
