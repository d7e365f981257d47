import Derived.Test.YtmpagpeenjddgaaGreatHq44
import Derived.Test.YtmpagpeenjddgaaGreatHq45
set_option maxHeartbeats 9999999
set_option maxRecDepth 99999
set_option linter.all false
namespace Go.Proofs.YtmpagpeenjddgaaGreat
open Go.RowKit Go.Shelf Fo
variable{e:Ending}{n:Int}{ops:List TO}{w w':World}{f:fZ}
def trC(n:Int)(ops:List TO):Int:=if inB n 8 512=false then 1 else if 2000<ops.length then 4 else 0
def trF(n:Int)(ops:List TO):fZ:=gX (aJ n.toNat) ops
def trA(n:Int)(ops:List TO):List An:=if trC n ops=0 then fJ (aJ n.toNat) ops else []
theorem mF(n:Int)(a:List TO):(trC n a=1/\inB n 8 512=false)\/(trC n a=4/\inB n 8 512=true/\2000<a.length)\/(trC n a=0/\inB n 8 512=true/\a.length<=2000):=by
 unfold trC;cases h:inB n 8 512 with
 | false=>exact .inl ⟨by simp,rfl⟩
 | true=>
  by_cases b:2000<a.length
  ·exact .inr (.inl ⟨by simp[b],rfl,b⟩)
  ·exact .inr (.inr ⟨by simp[b],rfl,by omega⟩)
theorem RuP.all(h:RuP w n ops e w'):∃X u,e=.returned (.tuple #[.agg X,u,iV (trC n ops)])/\X.size=7/\X.all (·.oneCell')=true/\yA.Own w.heap.size w' u (trA n ops)/\Bl w w'/\(trC n ops=0->∃A,X=aL A (trF n ops)/\SpV w' A (trF n ops)/\∃a k c,A.tv=.slice a k c):=by
 rcases mF n ops with⟨b,d⟩ | ⟨b,d,f⟩ | ⟨b,d,f⟩
 ·refine⟨z7,.slice none 0 0,by rw[b];exact h.dev d,rfl,by simp[z7,Value.oneCell'],?_,h.bk,fun q=>absurd (b.symm.trans q) (by omega)⟩
  unfold trA;rw[if_neg (by omega)];exact Ely.Own.nil _ _
 ·refine⟨z7,.slice none 0 0,by rw[b];exact h.lim d f,rfl,by simp[z7,Value.oneCell'],?_,h.bk,fun q=>absurd (b.symm.trans q) (by omega)⟩
  unfold trA;rw[if_neg (by omega)];exact Ely.Own.nil _ _
 ·obtain⟨A,u,i,g,ht,j⟩:=h.ok d f
  refine⟨_,u,by rw[b];exact i,dD _ _,dT g ht,?_,h.bk,fun _=>⟨A,rfl,g,ht⟩⟩;unfold trA;rw[if_pos b];exact j
theorem aCZ(h:trC n ops=0):aDI (aJ n.toNat) (trF n ops):=by
 rcases mF n ops with⟨b,a⟩ | ⟨b,a,c⟩ | ⟨b,a,c⟩
 ·omega
 ·omega
 ·have d:8<=n/\n<=512:=by unfold inB at a;simpa using a
  exact kZ (Inv.fresh (n:=n.toNat) (by omega) (by omega)) (pC _) ops
theorem qX(n:Int)(b:List TO)(v:Value)(w:World)(r:yO.Sl w v b)(B:b.length<=1048576):Calls Tryz.prog 6 #[iV n,v] w fun e w'=>∃u,e=.returned (.tuple #[u,iV (trC n b)])/\yA.Own w.heap.size w' u (trA n b)/\Bl w w':=by
 obtain⟨c,j⟩:=eZ (trC n b);have l:=aA (aFY n b v w r B);have f:=aA (fun e w' (h:RuP w n b e w')=>h.all);rw[j]at f;rw[j];clear r j;go_enter Tryz.func6,Tryz.ntmps6;go_upto_region 1 with fail
 refine wp_region_list ?_;refine wpList_plain rfl (fun K2 a=>?_);go_simp;refine a _ _ ?_;clear a K2;refine wpList_plain rfl (fun K2 a=>?_);go_simp;refine a _ _ ?_;clear a K2;refine wpList_plain rfl (fun K2 a=>?_);go_simp;refine l.out.mono ?_;intro e w1 q;obtain⟨X,u,rfl,m,A,p,o,_⟩:=f.out e w1 q;refine a _ _ ?_;clear a K2 q f l;obtain⟨x,D⟩:=eZ (w1.heap.size);obtain⟨F,i⟩:=eZ (w1.alloc (.cells #[iV 0,.slice none 0 0,.slice none 0 0,iV 0,iV 0,.slice none 0 0,.slice none 0 0] 58));have g:=bAl i;have s:=iNw i D;refine wpList_plain rfl (fun K2 a=>?_);go_simp;refine a _ _ ?_;clear a K2;refine wpList_plain rfl (fun K2 a=>?_);go_simp;refine a _ _ ?_;clear a K2;refine wpList_plain rfl (fun K2 a=>?_);go_simp;refine a _ _ ?_;clear a K2;refine wpList_plain rfl (fun K2 a=>?_);go_simp;refine a _ _ ?_;clear a K2;refine wpList_plain rfl (fun K2 a=>?_);go_simp;refine a _ _ ?_;clear a K2;refine wpList_plain rfl (fun K2 a=>?_);refine aM _ _ _ rfl x s rfl rfl m (by rw[m];kernel_rfl) A fun E C t=>?_;refine a _ _ ?_;clear a K2;have d:Bl w1 E:=g.trans (t.below g.size fun k e=>by omega);have z:=aA (p.below d);have y:=aA (o.trans (d.mono o.size));clear p t C s g d i;refine wpList_plain rfl (fun K2 a=>?_);go_simp;refine a _ _ ?_;clear a K2;refine wpList_plain rfl (fun K2 a=>?_);go_simp;refine a _ _ ?_;clear a K2;refine wpList_nil ?_;go_wp2;refine bodyPost_ret (v:=.tuple #[u,iV c]) (by simp[results,Tryz.results6,go_sem]) rfl ?_;exact⟨u,rfl,z.out,y.out⟩
theorem aLB.all(h:aLB w n ops e w'):∃p u,e=.returned (.tuple #[.pointer p,u,iV (trC n ops)])/\yA.Own w.heap.size w' u (trA n ops)/\Bl w w'/\(trC n ops=0->∃P ρ A J,p=some ⟨P,0,none⟩/\St w' ρ P A (trF n ops) J/\∀x,x<w.heap.size->ρ x=0):=by
 rcases mF n ops with⟨a,b⟩ | ⟨a,b,c⟩ | ⟨a,b,c⟩
 ·refine⟨none,.slice none 0 0,by rw[a];exact h.dev b,?_,h.bk,fun q=>absurd (a.symm.trans q) (by omega)⟩
  unfold trA;rw[if_neg (by omega)];exact Ely.Own.nil _ _
 ·refine⟨none,.slice none 0 0,by rw[a];exact h.lim b c,?_,h.bk,fun q=>absurd (a.symm.trans q) (by omega)⟩
  unfold trA;rw[if_neg (by omega)];exact Ely.Own.nil _ _
 ·obtain⟨P,ga,ρ,A,J,i,f,j,d,l,k⟩:=h.ok b c
  refine⟨some ⟨P,0,none⟩,_,by rw[a];exact i,?_,h.bk,fun _=>⟨P,ρ,A,J,rfl,f,j⟩⟩;unfold trA;rw[if_pos a];refine⟨some ga,[],?_,⟨fun g e=>?_,fun e=>(by cases e),?_⟩,fun g e=>?_⟩
  ·rw[gQ];rfl
  ·cases e;rw[List.append_nil];exact d
  ·rw[gQ];simp[maxLen];omega
  ·cases e;exact k
theorem qR(n:Int)(a:List TO)(v:Value)(w:World)(g:yO.Sl w v a)(f:a.length<=1048576):Calls Tryz.prog 7 #[iV n,v] w fun e w'=>∃u,e=.returned (.tuple #[u,iV (trC n a)])/\yA.Own w.heap.size w' u (trA n a)/\Bl w w':=by
 go_enter Tryz.func7,Tryz.ntmps7
 go_wp2_with fail
 refine(wW n a v w g f).mono ?_;intro e w1 b;obtain⟨p,u,rfl,c,d,_⟩:=b.all;clear b;go_wp2;refine bodyPost_ret (v:=.tuple #[u,iV (trC n a)]) (by simp[results,Tryz.results7,go_sem]) rfl ?_;exact⟨u,rfl,c,d⟩
theorem aJW{g:Nat}{l j:List Int}{cap:Nat}(h:IsC w g (y64.row (l++j)) 2)(b:∀i,0<=l.getD i 0/\l.getD i 0<=65535):bE g (g+1) w (sL g 0 l.length cap) l:=
 ⟨fun i=>by have:=b i;omega,_,_,rfl,fun _=>⟨g,0,rfl,nR _,by omega,h.lt,fun i a=>⟨by rw[Nat.zero_add];exact eD h a,by rw[Nat.zero_add];exact h.frozen i⟩⟩⟩
def tcU(n:Int)(ops:List TO):List Int:=if trC n ops=0 then(trF n ops).c else []
def tcM(n:Int)(ops:List TO):List Int:=if trC n ops=0 then(trF n ops).m else []
structure TcP(w:World)(n:Int)(ops:List TO)(e:Ending)(w':World):Prop where
 ex:∃a0 c0 a1 c1 l0 h0 l1 h1,e=.returned (.tuple #[.slice a0 (tcU n ops).length c0,.slice a1 (tcM n ops).length c1,iV (trC n ops)])/\w.heap.size<=l0/\h0<=w'.heap.size/\w.heap.size<=l1/\h1<=w'.heap.size/\(h0<=l1\/h1<=l0)/\bE l0 h0 w' (.slice a0 (tcU n ops).length c0) (tcU n ops)/\bE l1 h1 w' (.slice a1 (tcM n ops).length c1) (tcM n ops)/\Bl w w'
theorem TcP.bad(h:trC n ops≠0)(a:Bl w w'):TcP w n ops (.returned (.tuple #[.slice none 0 0,.slice none 0 0,iV (trC n ops)])) w':=by
 have b:tcU n ops=[]:=by unfold tcU;rw[if_neg h]
 have c:tcM n ops=[]:=by unfold tcM;rw[if_neg h]
 refine⟨none,0,none,0,w.heap.size,w.heap.size,w.heap.size,w.heap.size,by rw[b,c];rfl,nR _,a.size,nR _,a.size,.inl (nR _),?_,?_,a⟩
 ·rw[b];exact bE.empty _ _ _ _ _
 ·rw[c];exact bE.empty _ _ _ _ _
theorem TcP.good(h:trC n ops=0)(c:Bl w w'){g0 g1 c0 c1:Nat}(f:w.heap.size<=g0)(d:w.heap.size<=g1)(j:g0<w'.heap.size)(i:g1<w'.heap.size)(g:g0≠g1)(o0:bE g0 (g0+1) w' (sL g0 0 (trF n ops).c.length c0) (trF n ops).c)(e:bE g1 (g1+1) w' (sL g1 0 (trF n ops).m.length c1) (trF n ops).m):
  TcP w n ops (.returned (.tuple #[sL g0 0 (trF n ops).c.length c0,sL g1 0 (trF n ops).m.length c1,iV 0])) w':=by
 have a:tcU n ops=(trF n ops).c:=by unfold tcU;rw[if_pos h]
 have b:tcM n ops=(trF n ops).m:=by unfold tcM;rw[if_pos h]
 refine⟨some ⟨g0,0,none⟩,c0,some ⟨g1,0,none⟩,c1,g0,g0+1,g1,g1+1,by rw[a,b,h],f,by omega,d,by omega,by omega,by rw[a];exact o0,by rw[b];exact e,c⟩
theorem aID(h:Inv f)(i:Nat):0<=f.c.getD i 0/\f.c.getD i 0<=65535:=by have:=h.counts i;unfold cu at this;omega
theorem aIA(h:Inv f)(i:Nat):0<=f.m.getD i 0/\f.m.getD i 0<=65535:=by have:=h.db i;unfold co at this;omega
theorem mV(n:Int)(a:List TO)(v:Value)(w:World)(G:yO.Sl w v a)(F:a.length<=1048576):Calls Tryz.prog 8 #[iV n,v] w (TcP w n a):=by
 go_enter Tryz.func8,Tryz.ntmps8
 go_wp2_with fail
 refine(wW n a v w G F).mono ?_;intro e w1 y;obtain⟨p,u,rfl,_,m,r⟩:=y.all;clear y;by_cases b:trC n a=0
 ·obtain⟨P,ρ,A,J,rfl,l,z⟩:=r b
  obtain⟨_,_,_,h,_⟩:=id l;obtain⟨K,H,I,L⟩:=h.cells;have o:=aCZ b;have k:w.heap.size<=A.c/\w.heap.size<=A.d/\A.c≠A.d:=by
   have t:=h.rc;have x:=h.rd;refine⟨Nat.le_of_not_lt fun q=>?_,Nat.le_of_not_lt fun q=>?_,fun q=>?_⟩
   ·rw[z _ q]at t;omega
   ·rw[z _ q]at x;omega
   ·rw[q,x]at t;omega
  have D:Hid (∀w':World,Bl w1 w'->TcP w n a (.returned (.tuple #[sL A.c 0 (trF n a).c.length (trF n a).c.length,sL A.d 0 (trF n a).m.length ((trF n a).m.length+A.dj.length),iV 0])) w'):=fun w' B=>by
   have C:=l.below B;obtain⟨_,_,_,g,_⟩:=C;refine TcP.good b (m.trans (B.mono m.size)) k.1 k.2.1 g.hc.lt g.hd.lt k.2.2 (aJW (j:=[]) (by rw[List.append_nil,aEQ];exact g.hc) (aID o.inv)) ⟨fun i=>by have:=aIA o.inv i;omega,_,_,rfl,fun _=>⟨A.d,0,rfl,nR _,by omega,g.hd.lt,fun i E=>⟨?_,g.hd.frozen _⟩⟩⟩;rw[Nat.zero_add,g.hd.cell];simp[jG,List.getElem?_append,E]
  obtain⟨c,d⟩:=eZ (trC n a);rw[d]at b;rw[d];subst b;generalize trF n a=f at *;clear d r h l o k;go_wp2;go_region_held3 (fun w'=>w'.cell? (aD P 4)=some (sL A.c 0 f.c.length f.c.length)/\w'.cell? (aD P 5)=some (sL A.d 0 f.m.length (f.m.length+A.dj.length))) (first | go_keep | exact⟨H,I⟩) (fail);go_wp2;refine bodyPost_ret (v:=.tuple #[sL A.c 0 f.c.length f.c.length,sL A.d 0 f.m.length (f.m.length+A.dj.length),iV 0]) (by simp[results,Tryz.results8,go_sem]) rfl ?_;exact D.out _ (bQ _ _).drew
 ·have s:=aA (TcP.bad b m)
  obtain⟨c,d⟩:=eZ (trC n a);rw[d]at b s;rw[d];clear d r;go_wp2;refine bodyPost_ret (v:=.tuple #[.slice none 0 0,.slice none 0 0,iV c]) (by simp[results,Tryz.results8,go_sem]) rfl ?_;exact s.out
end Go.Proofs.YtmpagpeenjddgaaGreat
namespace Go.Proofs.YtmpagpeenjddgaaGreat
open Go.RowKit Fo
abbrev s98:ByteArray:={data:=#[48,49,50,51,52,53,54,55,56,57,97]}
abbrev s99:ByteArray:={data:=#[48,49,50,51,52,53,54,55,56,57]}
def opT(zs:List Int)(p:St2)(ids:Int):Int:=if nxV zs (nxS zs (nxS zs p)) 40=0 then ids else if 0<nxV zs (nxS zs p) 3 then 0 else nxV zs p ids
def opB(zs:List Int)(way ids:Int)(l:List TO)(p:St2)(k tree:Int)(key val:ByteArray):TO×St2×Int:=
 if 55<=k/\k<75\/100<=k then
  (if nxV zs p 2=0/\0<l.length then((2,tree,(l.getD (nxV zs (nxS zs p) l.length).toNat yO.z).2.2.1,val),nxS zs (nxS zs p),ids)else((2,tree,key,val),nxS zs p,ids))
 else if 75<=k/\k<81\/way=2/\k<12/\0<k then((3,tree,key,val),p,ids+1)
 else if 81<=k/\k<84 then((4,nxV zs p ids,key,val),nxS zs p,ids)
 else if 84<=k/\k<91 then((5,tree,key,val),p,ids)
 else if 91<=k/\k<97 then
  (if 0<l.length then((6,tree,(l.getD (nxV zs p l.length).toNat yO.z).2.2.1,val),nxS zs p,ids)else((6,tree,key,val),p,ids))
 else if k=97 then((nxV zs p 10-2,tree,key,val),nxS zs p,ids)
 else if k=98 then((1,tree,key++s98,val),p,ids)
 else if k=99 then((1,tree,key,s99++val.extract 0 (nxV zs p 2).toNat),nxS zs p,ids)
 else((1,tree,key,val),p,ids)
def aGC(way k:Int):Int:=if way=1/\k<70 then 0 else k
def opY(way k i:Int)(key:ByteArray):ByteArray:=if way=1/\k<70 then ris i else key
def aGD(way n i k:Int):Int:=if way=3/\n / 2<i then k+30 else k
def aPG(zs:List Int)(way:Int)(n:Nat)(ids:Int)(l:List TO)(tree k0:Int)(p5:St2)(key:ByteArray):TO×St2×Int:=
 opB zs way ids l (nxS zs p5) (aGD way n l.length (aGC way k0)) tree (opY way k0 l.length key) (txB [65+nxV zs p5 26,97+(l.length:Int) % 26])
def opR(zs:List Int)(way:Int)(n:Nat)(ids:Int)(l:List TO)(p:St2):TO×St2×Int:=
 aPG zs way n ids l (opT zs p ids) (nxV zs (nxS zs (nxS zs (nxS zs p))) 100) (dkR zs (nxS zs (nxS zs (nxS zs (nxS zs p))))).2 (dkR zs (nxS zs (nxS zs (nxS zs (nxS zs p))))).1
def yZ(zs:List Int)(way:Int)(n:Nat):Nat->Int->List TO->St2->List TO×St2
 | 0,_,l,p=>(l,p)
 | m+1,ids,l,p=>yZ zs way n m (opR zs way n ids l p).2.2 (l++[(opR zs way n ids l p).1]) (opR zs way n ids l p).2.1
def doR(zs:List Int)(p:St2)(mx:Int):List TO×St2:=yZ zs (nxV zs (nxS zs p) 4) (4+nxV zs p mx).toNat (4+nxV zs p mx).toNat 1 [] (nxS zs (nxS zs p))
structure DoB(base g:Nat)(a:Option Addr)(c:Nat)(zs:List Int)(w:World)(B0:Nat)(ra:Option Nat)(l junk:List TO)(p:St2)(o:TO)(wx:World):Prop where
 src:dQ base g a c zs p wx
 row:yO.Rw wx ra l junk
 box:IsC wx B0 (yK o).toArray 33
 ae:Frm (·=g) w wx
 gl:g<w.heap.size
 b0:w.heap.size<=B0
 ne:∀r,ra=some r->w.heap.size<=r/\r≠B0
section
variable {base g : Nat} {a : Option Addr} {c : Nat} {zs : List Int} {w : World} {B0 : Nat} {ra : Option Nat} {l junk : List TO} {p : St2} {o : TO} {wx : World}
theorem DoB.next(h:DoB base g a c zs w B0 ra l junk p o wx){p':St2}{wy:World}(d:dQ base g a c zs p' wy)(b:Frm (·=g) wx wy):DoB base g a c zs w B0 ra l junk p' o wy:=
 ⟨d,h.row.ae b fun r e q=>by have:=(h.ne r e).1;have:=h.gl;omega,h.box.ae b fun q=>by have:=h.b0;have:=h.gl;omega,h.ae.trans b,h.gl,h.b0,h.ne⟩
theorem DoB.bq(h:DoB base g a c zs w B0 ra l junk p o wx){wy:World}(b:Bl wx wy):DoB base g a c zs w B0 ra l junk p o wy:=h.next (h.src.below b) (Frm.aa b)
theorem DoB.put(h:DoB base g a c zs w B0 ra l junk p o wx)(j:Nat)(v:Value)(f:TO)(e:((yK o).toArray).setIfInBounds j v=(yK f).toArray):DoB base g a c zs w B0 ra l junk p f (wx.setCell (aD B0 j) v):=by
 have i:=h.b0;have m:=h.gl;have n:=h.src.lo;have d:Frm (·=B0) wx (wx.setCell (aD B0 j) v):=Frm.set (S:=(·=B0)) wx (p:=aD B0 j) rfl v;refine⟨h.src.ae d (by omega) fun b e=>by omega,h.row.ae d fun r q=>(h.ne r q).2,?_,?_,m,i,h.ne⟩
 ·rw[<-e];exact h.box.set j v
 ·exact((h.ae.wide (S':=fun k=>k=g\/k=B0) fun k _ q=>.inl q).trans (d.wide fun k _ q=>.inr q)).wide fun k s q=>q.elim id fun q=>by omega
theorem DoB.cells(h:DoB base g a c zs w B0 ra l junk p o wx):wx.cell? (aD B0 0)=some (iV o.1)/\wx.cell? (aD B0 1)=some (iV o.2.1)/\wx.cell? (aD B0 2)=some (.string o.2.2.1)/\wx.cell? (aD B0 3)=some (.string o.2.2.2)/\wx.frozen? (aD B0 0)=false/\wx.frozen? (aD B0 1)=false/\wx.frozen? (aD B0 2)=false/\wx.frozen? (aD B0 3)=false:=
 ⟨h.box.cell 0,h.box.cell 1,h.box.cell 2,h.box.cell 3,h.box.frozen 0,h.box.frozen 1,h.box.frozen 2,h.box.frozen 3⟩
theorem toHid'{p:Prop}(h:p):Hid p:=h
theorem DoB.key(h:DoB base g a c zs w B0 ra l junk p o wx)(f:0<l.length){j:Nat}(e:j<l.length):∃r,adr ra=some ⟨r,0,none⟩/\wx.cell? (aD r (j*4+2))=some (.string (l.getD j yO.z).2.2.1):=by
 cases ra with
 | none=>have:=(h.row.nil rfl).1;subst this;simp at f
 | some r=>
  refine⟨r,rfl,?_⟩;rw[(h.row.arr r rfl).cell];have b:=yO.at (l++junk) (i:=j) (j:=2) (by simp;omega) (by decide);have d:(l++junk).getD j yO.z=l.getD j yO.z:=by simp[gD,List.getElem?_append_left e]
  rw[d]at b;exact b
end
end Go.Proofs.YtmpagpeenjddgaaGreat
namespace Go.Proofs.YtmpagpeenjddgaaGreat
open Go.RowKit Go.Shelf Fo
variable{n tree:Int}{ops:List TO}{t:Nat}{w w':World}
def tsC(n:Int)(ops:List TO)(tree:Int):Int:=if trC n ops=0 then(match atT (trF n ops) tree with | none=>8 | some _=>0)else trC n ops
def tsV(n:Int)(ops:List TO)(tree:Int):List VW:=if trC n ops=0 then(match atT (trF n ops) tree with | none=>[] | some t=>shp (trF n ops) (aB (trF n ops) t))else []
theorem aOQ(tree:Int)(h:trC n ops≠0):tsC n ops tree=trC n ops/\tsV n ops tree=[]:=by
 unfold tsC tsV;rw[if_neg h,if_neg h];exact⟨rfl,rfl⟩
theorem aMW(h:trC n ops=0)(a:atT (trF n ops) tree=none):tsC n ops tree=8/\tsV n ops tree=[]:=by
 unfold tsC tsV;rw[if_pos h,if_pos h,a];exact⟨rfl,rfl⟩
theorem aEP(h:trC n ops=0)(a:atT (trF n ops) tree=some t):tsC n ops tree=0/\tsV n ops tree=shp (trF n ops) (aB (trF n ops) t):=by
 unfold tsC tsV;rw[if_pos h,if_pos h,a];exact⟨rfl,rfl⟩
def TsP(w:World)(n:Int)(ops:List TO)(tree:Int)(e:Ending)(w':World):Prop:=∃u,e=.returned (.tuple #[u,iV (tsC n ops tree)])/\yW.Own w.heap.size w' u (tsV n ops tree)/\Bl w w'
theorem TsP.bad(tree:Int)(h:trC n ops≠0)(c:Bl w w'):TsP w n ops tree (.returned (.tuple #[.slice none 0 0,iV (trC n ops)])) w':=by
 obtain⟨a,b⟩:=aOQ tree h;exact⟨_,by rw[a],by rw[b];exact Ely.Own.nil _ _,c⟩
theorem TsP.none(h:trC n ops=0)(c:atT (trF n ops) tree=none)(d:Bl w w'):TsP w n ops tree (.returned (.tuple #[.slice none 0 0,iV 8])) w':=by
 obtain⟨a,b⟩:=aMW h c;exact⟨_,by rw[a],by rw[b];exact Ely.Own.nil _ _,d⟩
theorem aKB{f:fZ}(a:Inv f)(ht:t<f.r.length):2<=aB f t/\aB f t<512:=by
 obtain⟨h,c,_⟩:=a.ok t ht;have:∃d,f.n (aB f t)=some d:=by
  cases h with
  | zero=>obtain⟨es,q,_⟩:=c;exact⟨_,q⟩
  | succ h=>obtain⟨es,q,_⟩:=c;exact⟨_,q⟩
 obtain⟨d,b⟩:=this;have e:=a.ic.dr b;have g:=a.ic.lt b;have i:=a.ic.al;omega
theorem nZ(n:Int)(a:List TO)(v:Value)(tree:Int)(w:World)(X:yO.Sl w v a)(U:a.length<=1048576):Calls Tryz.prog 10 #[iV n,v,iV tree] w (TsP w n a tree):=by
 go_enter Tryz.func10,Tryz.ntmps10
 go_wp2_with fail
 refine(wW n a v w X U).mono ?_;intro e w1 L;obtain⟨p,u,rfl,_,l,E⟩:=L.all;clear L;by_cases g:trC n a=0
 ·obtain⟨P,ρ,A,J,rfl,D,W⟩:=E g
  have i:=aCZ g;have d:=i.inv;have y:=aA fun(w':World) (b:atT (trF n a) tree=none) l=>TsP.none (w:=w) (w':=w') g b l;have z:=aA fun(t:Nat) (b:atT (trF n a) tree=some t)=>aEP g b;obtain⟨c,j⟩:=eZ (trC n a);rw[j]at g;rw[j];subst g;generalize trF n a=f at *;have x:=d.sz;clear j E i W;go_wp2_with fail;refine(aGM w1 ρ P A f J tree D d x).mono ?_;rintro e G ⟨rfl,B⟩;have s:=D.below B;have m:=l.trans (B.mono l.size);clear D B l;cases b:atT f tree with
  | none=>
   rw[vX b];have R:=aA (y.out G b m);clear s m y z d x;go_wp2;refine bodyPost_ret (v:=.tuple #[.slice none 0 0,iV 8]) (by simp[results,Tryz.results10,go_sem]) rfl ?_;exact R.out
  | some t=>
   rw[vY b];obtain⟨ht,_⟩:=mP b;obtain⟨h,i,T⟩:=d.ok t ht;obtain⟨N,Z,q3⟩:=aCP d.ic i T;have yf:=aKB d ht;have Y:¬((aB f t:Int)=0):=by omega
   obtain⟨Q,F⟩:=z.out t b;rw[N]at F;obtain⟨_,_,_,M,_⟩:=id s;have C:=nK d.ic x ρ P A J G.heap.size (fun k i=>Nat.eq_zero_of_not_pos fun q=>absurd (M.own k (by omega)) (by omega)) h (aB f t) none none 0 G none 0 [] i s (nR _) (Ely.Own.nil _ _) (by simp;omega) (Int.le_refl _) (by omega);simp only[List.length_nil,List.nil_append]at C;have I:=aA C;have H:=aA (aI Q F);clear C Q F M s d x z y i N;generalize bD f h (aB f t) 0=V at *;generalize aB f t=r at *;go_wp2_with fail;refine I.out.mono ?_;rintro e w3 ⟨⟨u3,rfl,O⟩,K⟩;have S:=aA (O.base m.size);have o:=aA (m.trans ((K.below (nR _) fun k e=>e.1).mono m.size));clear O K I;go_wp2;refine bodyPost_ret (v:=.tuple #[u3,iV 0]) (by simp[results,Tryz.results10,go_sem]) rfl ?_;exact⟨u3,by rw[H.out.1],by rw[H.out.2];exact S.out,o.out⟩
 ·have o:=aA (TsP.bad tree g l)
  obtain⟨c,j⟩:=eZ (trC n a);rw[j]at g o;rw[j];clear j E;go_wp2;refine bodyPost_ret (v:=.tuple #[.slice none 0 0,iV c]) (by simp[results,Tryz.results10,go_sem]) rfl ?_;exact o.out
end Go.Proofs.YtmpagpeenjddgaaGreat
