import Derived.Test.YtmpagpeenjddgaaGreatHq44
import Derived.Test.YtmpagpeenjddgaaGreatHq45
set_option maxHeartbeats 9999999
set_option maxRecDepth 99999
set_option linter.all false
namespace Go.Proofs.YtmpagpeenjddgaaGreat
open Go.RowKit Go.Shelf Fo
variable{e:Ending}{n:Int}{ops:List TO}{w w':World}{f:fZ}
def trC(n:Int)(ops:List TO):Int:=if inB n 8 512=false then 1 else if 2000<ops.length then 4 else 0
def trF(n:Int)(ops:List TO):fZ:=gX (aJ n.toNat) ops
def trA(n:Int)(ops:List TO):List An:=if trC n ops=0 then fJ (aJ n.toNat) ops else []
theorem mF(n:Int)(a:List TO):(trC n a=1/\inB n 8 512=false)\/(trC n a=4/\inB n 8 512=true/\2000<a.length)\/(trC n a=0/\inB n 8 512=true/\a.length<=2000):=by
 unfold trC;cases h:inB n 8 512 with
 | false=>exact .inl ⟨by simp,rfl⟩
 | true=>
  by_cases b:2000<a.length
  ·exact .inr (.inl ⟨by simp[b],rfl,b⟩)
  ·exact .inr (.inr ⟨by simp[b],rfl,by omega⟩)
theorem RuP.all(h:RuP w n ops e w'):∃X u,e=.returned (.tuple #[.agg X,u,iV (trC n ops)])/\X.size=7/\X.all (·.oneCell')=true/\yA.Own w.heap.size w' u (trA n ops)/\Bl w w'/\(trC n ops=0->∃A,X=aL A (trF n ops)/\SpV w' A (trF n ops)/\∃a k c,A.tv=.slice a k c):=by
 rcases mF n ops with⟨b,d⟩ | ⟨b,d,f⟩ | ⟨b,d,f⟩
 ·refine⟨z7,.slice none 0 0,by rw[b];exact h.dev d,rfl,by simp[z7,Value.oneCell'],?_,h.bk,fun q=>absurd (b.symm.trans q) (by omega)⟩
  unfold trA;rw[if_neg (by omega)];exact Ely.Own.nil _ _
 ·refine⟨z7,.slice none 0 0,by rw[b];exact h.lim d f,rfl,by simp[z7,Value.oneCell'],?_,h.bk,fun q=>absurd (b.symm.trans q) (by omega)⟩
  unfold trA;rw[if_neg (by omega)];exact Ely.Own.nil _ _
 ·obtain⟨A,u,i,g,ht,j⟩:=h.ok d f
  refine⟨_,u,by rw[b];exact i,dD _ _,dT g ht,?_,h.bk,fun _=>⟨A,rfl,g,ht⟩⟩;unfold trA;rw[if_pos b];exact j
theorem aCZ(h:trC n ops=0):aDI (aJ n.toNat) (trF n ops):=by
 rcases mF n ops with⟨b,a⟩ | ⟨b,a,c⟩ | ⟨b,a,c⟩
 ·omega
 ·omega
 ·have d:8<=n/\n<=512:=by unfold inB at a;simpa using a
  exact kZ (Inv.fresh (n:=n.toNat) (by omega) (by omega)) (pC _) ops
theorem qX(n:Int)(b:List TO)(v:Value)(w:World)(r:yO.Sl w v b)(B:b.length<=1048576):Calls Tryz.prog 6 #[iV n,v] w fun e w'=>∃u,e=.returned (.tuple #[u,iV (trC n b)])/\yA.Own w.heap.size w' u (trA n b)/\Bl w w':=by
 obtain⟨c,j⟩:=eZ (trC n b);have l:=aA (aFY n b v w r B);have f:=aA (fun e w' (h:RuP w n b e w')=>h.all);rw[j]at f;rw[j];clear r j;go_enter Tryz.func6,Tryz.ntmps6;go_upto_region 1 with fail
 refine wp_region_list ?_;refine wpList_plain rfl (fun K2 a=>?_);go_simp;refine a _ _ ?_;clear a K2;refine wpList_plain rfl (fun K2 a=>?_);go_simp;refine a _ _ ?_;clear a K2;refine wpList_plain rfl (fun K2 a=>?_);go_simp;refine l.out.mono ?_;intro e w1 q;obtain⟨X,u,rfl,m,A,p,o,_⟩:=f.out e w1 q;refine a _ _ ?_;clear a K2 q f l;obtain⟨x,D⟩:=eZ (w1.heap.size);obtain⟨F,i⟩:=eZ (w1.alloc (.cells #[iV 0,.slice none 0 0,.slice none 0 0,iV 0,iV 0,.slice none 0 0,.slice none 0 0] 58));have g:=bAl i;have s:=iNw i D;refine wpList_plain rfl (fun K2 a=>?_);go_simp;refine a _ _ ?_;clear a K2;refine wpList_plain rfl (fun K2 a=>?_);go_simp;refine a _ _ ?_;clear a K2;refine wpList_plain rfl (fun K2 a=>?_);go_simp;refine a _ _ ?_;clear a K2;refine wpList_plain rfl (fun K2 a=>?_);go_simp;refine a _ _ ?_;clear a K2;refine wpList_plain rfl (fun K2 a=>?_);go_simp;refine a _ _ ?_;clear a K2;refine wpList_plain rfl (fun K2 a=>?_);refine aM _ _ _ rfl x s rfl rfl m (by rw[m];kernel_rfl) A fun E C t=>?_;refine a _ _ ?_;clear a K2;have d:Bl w1 E:=g.trans (t.below g.size fun k e=>by omega);have z:=aA (p.below d);have y:=aA (o.trans (d.mono o.size));clear p t C s g d i;refine wpList_plain rfl (fun K2 a=>?_);go_simp;refine a _ _ ?_;clear a K2;refine wpList_plain rfl (fun K2 a=>?_);go_simp;refine a _ _ ?_;clear a K2;refine wpList_nil ?_;go_wp2;refine bodyPost_ret (v:=.tuple #[u,iV c]) (by simp[results,Tryz.results6,go_sem]) rfl ?_;exact⟨u,rfl,z.out,y.out⟩
theorem aLB.all(h:aLB w n ops e w'):∃p u,e=.returned (.tuple #[.pointer p,u,iV (trC n ops)])/\yA.Own w.heap.size w' u (trA n ops)/\Bl w w'/\(trC n ops=0->∃P ρ A J,p=some ⟨P,0,none⟩/\St w' ρ P A (trF n ops) J/\∀x,x<w.heap.size->ρ x=0):=by
 rcases mF n ops with⟨a,b⟩ | ⟨a,b,c⟩ | ⟨a,b,c⟩
 ·refine⟨none,.slice none 0 0,by rw[a];exact h.dev b,?_,h.bk,fun q=>absurd (a.symm.trans q) (by omega)⟩
  unfold trA;rw[if_neg (by omega)];exact Ely.Own.nil _ _
 ·refine⟨none,.slice none 0 0,by rw[a];exact h.lim b c,?_,h.bk,fun q=>absurd (a.symm.trans q) (by omega)⟩
  unfold trA;rw[if_neg (by omega)];exact Ely.Own.nil _ _
 ·obtain⟨P,ga,ρ,A,J,i,f,j,d,l,k⟩:=h.ok b c
  refine⟨some ⟨P,0,none⟩,_,by rw[a];exact i,?_,h.bk,fun _=>⟨P,ρ,A,J,rfl,f,j⟩⟩;unfold trA;rw[if_pos a];refine⟨some ga,[],?_,⟨fun g e=>?_,fun e=>(by cases e),?_⟩,fun g e=>?_⟩
  ·rw[gQ];rfl
  ·cases e;rw[List.append_nil];exact d
  ·rw[gQ];simp[maxLen];omega
  ·cases e;exact k
theorem qR(n:Int)(a:List TO)(v:Value)(w:World)(g:yO.Sl w v a)(f:a.length<=1048576):Calls Tryz.prog 7 #[iV n,v] w fun e w'=>∃u,e=.returned (.tuple #[u,iV (trC n a)])/\yA.Own w.heap.size w' u (trA n a)/\Bl w w':=by
 go_enter Tryz.func7,Tryz.ntmps7
 go_wp2_with fail
 refine(wW n a v w g f).mono ?_;intro e w1 b;obtain⟨p,u,rfl,c,d,_⟩:=b.all;clear b;go_wp2;refine bodyPost_ret (v:=.tuple #[u,iV (trC n a)]) (by simp[results,Tryz.results7,go_sem]) rfl ?_;exact⟨u,rfl,c,d⟩
theorem aJW{g:Nat}{l j:List Int}{cap:Nat}(h:IsC w g (y64.row (l++j)) 2)(b:∀i,0<=l.getD i 0/\l.getD i 0<=65535):bE g (g+1) w (sL g 0 l.length cap) l:=
 ⟨fun i=>by have:=b i;omega,_,_,rfl,fun _=>⟨g,0,rfl,nR _,by omega,h.lt,fun i a=>⟨by rw[Nat.zero_add];exact eD h a,by rw[Nat.zero_add];exact h.frozen i⟩⟩⟩
def tcU(n:Int)(ops:List TO):List Int:=if trC n ops=0 then(trF n ops).c else []
def tcM(n:Int)(ops:List TO):List Int:=if trC n ops=0 then(trF n ops).m else []
structure TcP(w:World)(n:Int)(ops:List TO)(e:Ending)(w':World):Prop where
 ex:∃a0 c0 a1 c1 l0 h0 l1 h1,e=.returned (.tuple #[.slice a0 (tcU n ops).length c0,.slice a1 (tcM n ops).length c1,iV (trC n ops)])/\w.heap.size<=l0/\h0<=w'.heap.size/\w.heap.size<=l1/\h1<=w'.heap.size/\(h0<=l1\/h1<=l0)/\bE l0 h0 w' (.slice a0 (tcU n ops).length c0) (tcU n ops)/\bE l1 h1 w' (.slice a1 (tcM n ops).length c1) (tcM n ops)/\Bl w w'
theorem TcP.bad(h:trC n ops≠0)(a:Bl w w'):TcP w n ops (.returned (.tuple #[.slice none 0 0,.slice none 0 0,iV (trC n ops)])) w':=by
 have b:tcU n ops=[]:=by unfold tcU;rw[if_neg h]
 have c:tcM n ops=[]:=by unfold tcM;rw[if_neg h]
 refine⟨none,0,none,0,w.heap.size,w.heap.size,w.heap.size,w.heap.size,by rw[b,c];rfl,nR _,a.size,nR _,a.size,.inl (nR _),?_,?_,a⟩
 ·rw[b];exact bE.empty _ _ _ _ _
 ·rw[c];exact bE.empty _ _ _ _ _
theorem TcP.good(h:trC n ops=0)(c:Bl w w'){g0 g1 c0 c1:Nat}(f:w.heap.size<=g0)(d:w.heap.size<=g1)(j:g0<w'.heap.size)(i:g1<w'.heap.size)(g:g0≠g1)(o0:bE g0 (g0+1) w' (sL g0 0 (trF n ops).c.length c0) (trF n ops).c)(e:bE g1 (g1+1) w' (sL g1 0 (trF n ops).m.length c1) (trF n ops).m):
  TcP w n ops (.returned (.tuple #[sL g0 0 (trF n ops).c.length c0,sL g1 0 (trF n ops).m.length c1,iV 0])) w':=by
 have a:tcU n ops=(trF n ops).c:=by unfold tcU;rw[if_pos h]
 have b:tcM n ops=(trF n ops).m:=by unfold tcM;rw[if_pos h]
 refine⟨some ⟨g0,0,none⟩,c0,some ⟨g1,0,none⟩,c1,g0,g0+1,g1,g1+1,by rw[a,b,h],f,by omega,d,by omega,by omega,by rw[a];exact o0,by rw[b];exact e,c⟩
theorem aID(h:Inv f)(i:Nat):0<=f.c.getD i 0/\f.c.getD i 0<=65535:=by have:=h.counts i;unfold cu at this;omega
theorem aIA(h:Inv f)(i:Nat):0<=f.m.getD i 0/\f.m.getD i 0<=65535:=by have:=h.db i;unfold co at this;omega
theorem mV(n:Int)(a:List TO)(v:Value)(w:World)(G:yO.Sl w v a)(F:a.length<=1048576):Calls Tryz.prog 8 #[iV n,v] w (TcP w n a):=by
 go_enter Tryz.func8,Tryz.ntmps8
 go_wp2_with fail
 refine(wW n a v w G F).mono ?_;intro e w1 y;obtain⟨p,u,rfl,_,m,r⟩:=y.all;clear y;by_cases b:trC n a=0
 ·obtain⟨P,ρ,A,J,rfl,l,z⟩:=r b
  obtain⟨_,_,_,h,_⟩:=id l;obtain⟨K,H,I,L⟩:=h.cells;have o:=aCZ b;have k:w.heap.size<=A.c/\w.heap.size<=A.d/\A.c≠A.d:=by
   have t:=h.rc;have x:=h.rd;refine⟨Nat.le_of_not_lt fun q=>?_,Nat.le_of_not_lt fun q=>?_,fun q=>?_⟩
   ·rw[z _ q]at t;omega
   ·rw[z _ q]at x;omega
   ·rw[q,x]at t;omega
  have D:Hid (∀w':World,Bl w1 w'->TcP w n a (.returned (.tuple #[sL A.c 0 (trF n a).c.length (trF n a).c.length,sL A.d 0 (trF n a).m.length ((trF n a).m.length+A.dj.length),iV 0])) w'):=fun w' B=>by
   have C:=l.below B;obtain⟨_,_,_,g,_⟩:=C;refine TcP.good b (m.trans (B.mono m.size)) k.1 k.2.1 g.hc.lt g.hd.lt k.2.2 (aJW (j:=[]) (by rw[List.append_nil,aEQ];exact g.hc) (aID o.inv)) ⟨fun i=>by have:=aIA o.inv i;omega,_,_,rfl,fun _=>⟨A.d,0,rfl,nR _,by omega,g.hd.lt,fun i E=>⟨?_,g.hd.frozen _⟩⟩⟩;rw[Nat.zero_add,g.hd.cell];simp[jG,List.getElem?_append,E]
  obtain⟨c,d⟩:=eZ (trC n a);rw[d]at b;rw[d];subst b;generalize trF n a=f at *;clear d r h l o k;go_wp2;go_region_held3 (fun w'=>w'.cell? (aD P 4)=some (sL A.c 0 f.c.length f.c.length)/\w'.cell? (aD P 5)=some (sL A.d 0 f.m.length (f.m.length+A.dj.length))) (first | go_keep | exact⟨H,I⟩) (fail);go_wp2;refine bodyPost_ret (v:=.tuple #[sL A.c 0 f.c.length f.c.length,sL A.d 0 f.m.length (f.m.length+A.dj.length),iV 0]) (by simp[results,Tryz.results8,go_sem]) rfl ?_;exact D.out _ (bQ _ _).drew
 ·have s:=aA (TcP.bad b m)
  obtain⟨c,d⟩:=eZ (trC n a);rw[d]at b s;rw[d];clear d r;go_wp2;refine bodyPost_ret (v:=.tuple #[.slice none 0 0,.slice none 0 0,iV c]) (by simp[results,Tryz.results8,go_sem]) rfl ?_;exact s.out
end Go.Proofs.YtmpagpeenjddgaaGreat
namespace Go.Proofs.YtmpagpeenjddgaaGreat
open Go.RowKit Fo
abbrev s98:ByteArray:={data:=#[48,49,50,51,52,53,54,55,56,57,97]}
abbrev s99:ByteArray:={data:=#[48,49,50,51,52,53,54,55,56,57]}
def opT(zs:List Int)(p:St2)(ids:Int):Int:=if nxV zs (nxS zs (nxS zs p)) 40=0 then ids else if 0<nxV zs (nxS zs p) 3 then 0 else nxV zs p ids
def opB(zs:List Int)(way ids:Int)(l:List TO)(p:St2)(k tree:Int)(key val:ByteArray):TO×St2×Int:=
 if 55<=k/\k<75\/100<=k then
  (if nxV zs p 2=0/\0<l.length then((2,tree,(l.getD (nxV zs (nxS zs p) l.length).toNat yO.z).2.2.1,val),nxS zs (nxS zs p),ids)else((2,tree,key,val),nxS zs p,ids))
 else if 75<=k/\k<81\/way=2/\k<12/\0<k then((3,tree,key,val),p,ids+1)
 else if 81<=k/\k<84 then((4,nxV zs p ids,key,val),nxS zs p,ids)
 else if 84<=k/\k<91 then((5,tree,key,val),p,ids)
 else if 91<=k/\k<97 then
  (if 0<l.length then((6,tree,(l.getD (nxV zs p l.length).toNat yO.z).2.2.1,val),nxS zs p,ids)else((6,tree,key,val),p,ids))
 else if k=97 then((nxV zs p 10-2,tree,key,val),nxS zs p,ids)
 else if k=98 then((1,tree,key++s98,val),p,ids)
 else if k=99 then((1,tree,key,s99++val.extract 0 (nxV zs p 2).toNat),nxS zs p,ids)
 else((1,tree,key,val),p,ids)
def aGC(way k:Int):Int:=if way=1/\k<70 then 0 else k
def opY(way k i:Int)(key:ByteArray):ByteArray:=if way=1/\k<70 then ris i else key
def aGD(way n i k:Int):Int:=if way=3/\n / 2<i then k+30 else k
def aPG(zs:List Int)(way:Int)(n:Nat)(ids:Int)(l:List TO)(tree k0:Int)(p5:St2)(key:ByteArray):TO×St2×Int:=
 opB zs way ids l (nxS zs p5) (aGD way n l.length (aGC way k0)) tree (opY way k0 l.length key) (txB [65+nxV zs p5 26,97+(l.length:Int) % 26])
def opR(zs:List Int)(way:Int)(n:Nat)(ids:Int)(l:List TO)(p:St2):TO×St2×Int:=
 aPG zs way n ids l (opT zs p ids) (nxV zs (nxS zs (nxS zs (nxS zs p))) 100) (dkR zs (nxS zs (nxS zs (nxS zs (nxS zs p))))).2 (dkR zs (nxS zs (nxS zs (nxS zs (nxS zs p))))).1
def yZ(zs:List Int)(way:Int)(n:Nat):Nat->Int->List TO->St2->List TO×St2
 | 0,_,l,p=>(l,p)
 | m+1,ids,l,p=>yZ zs way n m (opR zs way n ids l p).2.2 (l++[(opR zs way n ids l p).1]) (opR zs way n ids l p).2.1
def doR(zs:List Int)(p:St2)(mx:Int):List TO×St2:=yZ zs (nxV zs (nxS zs p) 4) (4+nxV zs p mx).toNat (4+nxV zs p mx).toNat 1 [] (nxS zs (nxS zs p))
structure DoB(base g:Nat)(a:Option Addr)(c:Nat)(zs:List Int)(w:World)(B0:Nat)(ra:Option Nat)(l junk:List TO)(p:St2)(o:TO)(wx:World):Prop where
 src:dQ base g a c zs p wx
 row:yO.Rw wx ra l junk
 box:IsC wx B0 (yK o).toArray 33
 ae:Frm (·=g) w wx
 gl:g<w.heap.size
 b0:w.heap.size<=B0
 ne:∀r,ra=some r->w.heap.size<=r/\r≠B0
section
variable {base g : Nat} {a : Option Addr} {c : Nat} {zs : List Int} {w : World} {B0 : Nat} {ra : Option Nat} {l junk : List TO} {p : St2} {o : TO} {wx : World}
theorem DoB.next(h:DoB base g a c zs w B0 ra l junk p o wx){p':St2}{wy:World}(d:dQ base g a c zs p' wy)(b:Frm (·=g) wx wy):DoB base g a c zs w B0 ra l junk p' o wy:=
 ⟨d,h.row.ae b fun r e q=>by have:=(h.ne r e).1;have:=h.gl;omega,h.box.ae b fun q=>by have:=h.b0;have:=h.gl;omega,h.ae.trans b,h.gl,h.b0,h.ne⟩
theorem DoB.bq(h:DoB base g a c zs w B0 ra l junk p o wx){wy:World}(b:Bl wx wy):DoB base g a c zs w B0 ra l junk p o wy:=h.next (h.src.below b) (Frm.aa b)
theorem DoB.put(h:DoB base g a c zs w B0 ra l junk p o wx)(j:Nat)(v:Value)(f:TO)(e:((yK o).toArray).setIfInBounds j v=(yK f).toArray):DoB base g a c zs w B0 ra l junk p f (wx.setCell (aD B0 j) v):=by
 have i:=h.b0;have m:=h.gl;have n:=h.src.lo;have d:Frm (·=B0) wx (wx.setCell (aD B0 j) v):=Frm.set (S:=(·=B0)) wx (p:=aD B0 j) rfl v;refine⟨h.src.ae d (by omega) fun b e=>by omega,h.row.ae d fun r q=>(h.ne r q).2,?_,?_,m,i,h.ne⟩
 ·rw[<-e];exact h.box.set j v
 ·exact((h.ae.wide (S':=fun k=>k=g\/k=B0) fun k _ q=>.inl q).trans (d.wide fun k _ q=>.inr q)).wide fun k s q=>q.elim id fun q=>by omega
theorem DoB.cells(h:DoB base g a c zs w B0 ra l junk p o wx):wx.cell? (aD B0 0)=some (iV o.1)/\wx.cell? (aD B0 1)=some (iV o.2.1)/\wx.cell? (aD B0 2)=some (.string o.2.2.1)/\wx.cell? (aD B0 3)=some (.string o.2.2.2)/\wx.frozen? (aD B0 0)=false/\wx.frozen? (aD B0 1)=false/\wx.frozen? (aD B0 2)=false/\wx.frozen? (aD B0 3)=false:=
 ⟨h.box.cell 0,h.box.cell 1,h.box.cell 2,h.box.cell 3,h.box.frozen 0,h.box.frozen 1,h.box.frozen 2,h.box.frozen 3⟩
theorem toHid'{p:Prop}(h:p):Hid p:=h
theorem DoB.key(h:DoB base g a c zs w B0 ra l junk p o wx)(f:0<l.length){j:Nat}(e:j<l.length):∃r,adr ra=some ⟨r,0,none⟩/\wx.cell? (aD r (j*4+2))=some (.string (l.getD j yO.z).2.2.1):=by
 cases ra with
 | none=>have:=(h.row.nil rfl).1;subst this;simp at f
 | some r=>
  refine⟨r,rfl,?_⟩;rw[(h.row.arr r rfl).cell];have b:=yO.at (l++junk) (i:=j) (j:=2) (by simp;omega) (by decide);have d:(l++junk).getD j yO.z=l.getD j yO.z:=by simp[gD,List.getElem?_append_left e]
  rw[d]at b;exact b
end
end Go.Proofs.YtmpagpeenjddgaaGreat
namespace Go.Proofs.YtmpagpeenjddgaaGreat
open Go.RowKit Go.Shelf Fo
variable{n tree:Int}{ops:List TO}{t:Nat}{w w':World}
def tsC(n:Int)(ops:List TO)(tree:Int):Int:=if trC n ops=0 then(match atT (trF n ops) tree with | none=>8 | some _=>0)else trC n ops
def tsV(n:Int)(ops:List TO)(tree:Int):List VW:=if trC n ops=0 then(match atT (trF n ops) tree with | none=>[] | some t=>shp (trF n ops) (aB (trF n ops) t))else []
theorem aOQ(tree:Int)(h:trC n ops≠0):tsC n ops tree=trC n ops/\tsV n ops tree=[]:=by
 unfold tsC tsV;rw[if_neg h,if_neg h];exact⟨rfl,rfl⟩
theorem aMW(h:trC n ops=0)(a:atT (trF n ops) tree=none):tsC n ops tree=8/\tsV n ops tree=[]:=by
 unfold tsC tsV;rw[if_pos h,if_pos h,a];exact⟨rfl,rfl⟩
theorem aEP(h:trC n ops=0)(a:atT (trF n ops) tree=some t):tsC n ops tree=0/\tsV n ops tree=shp (trF n ops) (aB (trF n ops) t):=by
 unfold tsC tsV;rw[if_pos h,if_pos h,a];exact⟨rfl,rfl⟩
def TsP(w:World)(n:Int)(ops:List TO)(tree:Int)(e:Ending)(w':World):Prop:=∃u,e=.returned (.tuple #[u,iV (tsC n ops tree)])/\yW.Own w.heap.size w' u (tsV n ops tree)/\Bl w w'
theorem TsP.bad(tree:Int)(h:trC n ops≠0)(c:Bl w w'):TsP w n ops tree (.returned (.tuple #[.slice none 0 0,iV (trC n ops)])) w':=by
 obtain⟨a,b⟩:=aOQ tree h;exact⟨_,by rw[a],by rw[b];exact Ely.Own.nil _ _,c⟩
theorem TsP.none(h:trC n ops=0)(c:atT (trF n ops) tree=none)(d:Bl w w'):TsP w n ops tree (.returned (.tuple #[.slice none 0 0,iV 8])) w':=by
 obtain⟨a,b⟩:=aMW h c;exact⟨_,by rw[a],by rw[b];exact Ely.Own.nil _ _,d⟩
theorem aKB{f:fZ}(a:Inv f)(ht:t<f.r.length):2<=aB f t/\aB f t<512:=by
 obtain⟨h,c,_⟩:=a.ok t ht;have:∃d,f.n (aB f t)=some d:=by
  cases h with
  | zero=>obtain⟨es,q,_⟩:=c;exact⟨_,q⟩
  | succ h=>obtain⟨es,q,_⟩:=c;exact⟨_,q⟩
 obtain⟨d,b⟩:=this;have e:=a.ic.dr b;have g:=a.ic.lt b;have i:=a.ic.al;omega
theorem nZ(n:Int)(a:List TO)(v:Value)(tree:Int)(w:World)(X:yO.Sl w v a)(U:a.length<=1048576):Calls Tryz.prog 10 #[iV n,v,iV tree] w (TsP w n a tree):=by
 go_enter Tryz.func10,Tryz.ntmps10
 go_wp2_with fail
 refine(wW n a v w X U).mono ?_;intro e w1 L;obtain⟨p,u,rfl,_,l,E⟩:=L.all;clear L;by_cases g:trC n a=0
 ·obtain⟨P,ρ,A,J,rfl,D,W⟩:=E g
  have i:=aCZ g;have d:=i.inv;have y:=aA fun(w':World) (b:atT (trF n a) tree=none) l=>TsP.none (w:=w) (w':=w') g b l;have z:=aA fun(t:Nat) (b:atT (trF n a) tree=some t)=>aEP g b;obtain⟨c,j⟩:=eZ (trC n a);rw[j]at g;rw[j];subst g;generalize trF n a=f at *;have x:=d.sz;clear j E i W;go_wp2_with fail;refine(aGM w1 ρ P A f J tree D d x).mono ?_;rintro e G ⟨rfl,B⟩;have s:=D.below B;have m:=l.trans (B.mono l.size);clear D B l;cases b:atT f tree with
  | none=>
   rw[vX b];have R:=aA (y.out G b m);clear s m y z d x;go_wp2;refine bodyPost_ret (v:=.tuple #[.slice none 0 0,iV 8]) (by simp[results,Tryz.results10,go_sem]) rfl ?_;exact R.out
  | some t=>
   rw[vY b];obtain⟨ht,_⟩:=mP b;obtain⟨h,i,T⟩:=d.ok t ht;obtain⟨N,Z,q3⟩:=aCP d.ic i T;have yf:=aKB d ht;have Y:¬((aB f t:Int)=0):=by omega
   obtain⟨Q,F⟩:=z.out t b;rw[N]at F;obtain⟨_,_,_,M,_⟩:=id s;have C:=nK d.ic x ρ P A J G.heap.size (fun k i=>Nat.eq_zero_of_not_pos fun q=>absurd (M.own k (by omega)) (by omega)) h (aB f t) none none 0 G none 0 [] i s (nR _) (Ely.Own.nil _ _) (by simp;omega) (Int.le_refl _) (by omega);simp only[List.length_nil,List.nil_append]at C;have I:=aA C;have H:=aA (aI Q F);clear C Q F M s d x z y i N;generalize bD f h (aB f t) 0=V at *;generalize aB f t=r at *;go_wp2_with fail;refine I.out.mono ?_;rintro e w3 ⟨⟨u3,rfl,O⟩,K⟩;have S:=aA (O.base m.size);have o:=aA (m.trans ((K.below (nR _) fun k e=>e.1).mono m.size));clear O K I;go_wp2;refine bodyPost_ret (v:=.tuple #[u3,iV 0]) (by simp[results,Tryz.results10,go_sem]) rfl ?_;exact⟨u3,by rw[H.out.1],by rw[H.out.2];exact S.out,o.out⟩
 ·have o:=aA (TsP.bad tree g l)
  obtain⟨c,j⟩:=eZ (trC n a);rw[j]at g o;rw[j];clear j E;go_wp2;refine bodyPost_ret (v:=.tuple #[.slice none 0 0,iV c]) (by simp[results,Tryz.results10,go_sem]) rfl ?_;exact o.out
end Go.Proofs.YtmpagpeenjddgaaGreat
namespace Go.Proofs.YtmpagpeenjddgaaGreat
open Go.RowKit Fo
theorem zT(l:List TO)(a:List An):∀i,(mI l a i).length<=i+1
 | 0=>by simp[mI]
 | i+1=>by
  have h:=zT l a i;unfold mI xE;split
  ·omega
  ·split
   ·simp;omega
   ·split
    ·exact lT (List.length_filter_le _ _) (by omega)
    ·omega
theorem zF(l:List Int)(t:Int){k:Nat}(a:k<l.length):(l.take (k+1)).filter (fun x=>decide (x≠t))=if l.getD k 0=t then(l.take k).filter (fun x=>decide (x≠t))else(l.take k).filter (fun x=>decide (x≠t))++[l.getD k 0]:=by
 rw[cO l k 0 a,List.filter_append,List.filter_cons,List.filter_nil];generalize l.getD k 0=x;by_cases e:x=t<;>simp[e]
theorem zQ(base g:Nat)(a:Option Addr)(c:Nat)(zs:List Int)(p:St2)(H:Int)(h0:0<H)(h1:H<=600000)(w:World)(hs:dQ base g a c zs p w):
  Calls Tryz.prog 27 #[pT g 0,iV H] w fun e w'=>∃u,e=.returned u/\yO.Own w.heap.size w' u (doR zs p H).1/\dQ base g a c zs (doR zs p H).2 w'/\Frm (·=g) w w':=by
 have vm:=hs.lt;have HL:Hid (yO.Own w.heap.size (w.alloc (.cells #[] 33)) (sL w.heap.size 0 0 0) []):=Ely.Own.lit _ _ (nR _) _ rfl;have HR:Hid (doR zs p H=yZ zs (nxV zs (nxS zs p) 4) (4+nxV zs p H).toNat (4+nxV zs p H).toNat 1 [] (nxS zs (nxS zs p))):=rfl;have hv:=bW zs p (n:=H) h0 (by omega);have ci:=bW zs (nxS zs p) (n:=4) (by decide) (by decide);generalize doR zs p H=R at *;go_enter Tryz.func27,Tryz.ntmps27;go_wp2_with fail;refine(bA base g a c zs p H h0 (by omega) _ (hs.below (eU _ _))).mono ?_;rintro e w1 ⟨rfl,d8,qz⟩;obtain⟨n,hn⟩:∃n:Nat,4+nxV zs p H=(n:Int):=⟨(4+nxV zs p H).toNat,by omega⟩;have O6:IntKind.i64.wrap (4+nxV zs p H)=(n:Int):=by rw[hn];exact IntWalk.i64_in _ ⟨by omega,by omega⟩
 have ZX:n<=600004:=by omega
 rw[hn,Int.toNat_natCast]at HR;clear hn;generalize nxV zs p H=v at *;go_wp2_with fail;refine(bA base g a c zs _ 4 (by decide) (by decide) _ d8).mono ?_;rintro e w2 ⟨rfl,ju,mr⟩;generalize nxV zs (nxS zs p) 4=f at *;generalize nxS zs (nxS zs p)=p2 at *;have ly:Hid (yO.Own w.heap.size w2 (sL w.heap.size 0 0 0) []/\dQ base g a c zs p2 w2/\Frm (·=g) w w2):=⟨(HL.out.ae qz fun r hr q=>by omega).ae mr fun r hr q=>by omega,ju,((Frm.alloc _ _ _).trans qz).trans mr⟩;clear HL hs d8 ju qz mr hv;go_wp2_with fail;go_loopw [5,8,9,10,11,12] (fun ov idv i _ _ _ wr=>∃(l:List TO) (d:Int) (q:St2) (m:Nat),l.length+m=n/\i=iV l.length/\idv=iV d/\1<=d/\d<=l.length+1/\Hid (R=yZ zs f n m d l q)/\yO.Own w.heap.size wr ov l/\dQ base g a c zs q wr/\Frm (·=g) w wr) (fun _ _ i _ _ _ _=>n -(intOf i).toNat)
 case atStart=>exact⟨[],1,p2,n,by simp,rfl,rfl,by omega,by simp,HR,ly.out.1,ly.out.2.1,ly.out.2.2⟩
 case round=>
  obtain⟨l,d,q,m,hm,rfl,rfl,N,AW,HQ,hO,hS,hF⟩:=hrel;clear ly HR;cases m with
  | zero=>
   obtain rfl:l.length=n:=by omega
   have hE:R=(l,q):=HQ.out;have jl:¬(l.length:Int) <(l.length:Int):=by omega
   subst hE;go_wp2;go_ret;exact⟨_,rfl,hO,hS,hF⟩
  | succ m=>
   have jl:(l.length:Int) <(n:Int):=by omega
   obtain⟨ra,y,rfl,Ek,DJ⟩:=hO;have v1:=bW zs q (n:=d) (by omega) (by omega);have v2:=bW zs (nxS zs q) (n:=3) (by decide) (by decide);have v3:=bW zs (nxS zs (nxS zs q)) (n:=40) (by decide) (by decide);have v4:=bW zs (nxS zs (nxS zs (nxS zs q))) (n:=100) (by decide) (by decide);have HO:Hid (opR zs f n d l q=aPG zs f n d l (opT zs q d) (nxV zs (nxS zs (nxS zs (nxS zs q))) 100) (dkR zs (nxS zs (nxS zs (nxS zs (nxS zs q))))).2 (dkR zs (nxS zs (nxS zs (nxS zs (nxS zs q))))).1):=rfl;have Uf:Hid (R=yZ zs f n m (opR zs f n d l q).2.2 (l++[(opR zs f n d l q).1]) (opR zs f n d l q).2.1):=HQ.out;have HT:Hid (opT zs q d=if nxV zs (nxS zs (nxS zs q)) 40=0 then d else if 0<nxV zs (nxS zs q) 3 then 0 else nxV zs q d):=rfl;clear HQ;generalize opR zs f n d l q=OP at *;generalize opT zs q d=tree at *;have HW:Hid (yO.Rw wr ra l y/\(∀r,ra=some r->w.heap.size<=r)/\Frm (·=g) w wr):=⟨Ek,DJ,hF⟩;clear Ek DJ hF;go_wp2_with fail;refine(bA base g a c zs q d (by omega) (by omega) _ hS).mono ?_;rintro e w3 ⟨rfl,vq,Di⟩;go_wp2_with fail;refine(bA base g a c zs _ 3 (by decide) (by decide) _ vq).mono ?_;rintro e w4 ⟨rfl,vt,GA⟩;generalize nxV zs q d=t0 at *;generalize nxV zs (nxS zs q) 3=t1 at *;obtain⟨V,HT1⟩:∃x,Hid ((if 0<t1 then 0 else t0)=x):=⟨_,rfl⟩;go_upto_if 30 with fail
   go_cut [10] (fun s10 E=>s10=iV V/\E=w4)
   case first=>as_aux_lemma=>
    by_cases hb:0<t1
    ·obtain rfl:0=V:=by rw[<-HT1.out,if_pos hb]
     go_wp2
     go_meet
     exact⟨rfl,rfl⟩
    ·obtain rfl:t0=V:=by rw[<-HT1.out,if_neg hb]
     go_wp2
     go_meet
     exact⟨rfl,rfl⟩
   case rest=>
    obtain⟨rfl,rfl⟩:=hcut;go_wp2_with fail;refine(bA base g a c zs _ 40 (by decide) (by decide) _ vt).mono ?_;rintro e w5 ⟨rfl,GI,pa⟩;generalize nxV zs (nxS zs (nxS zs q)) 40=t2 at *;have D3:Hid (tree=if t2=0 then d else V):=by show tree=_;rw[HT.out,HT1.out]
    clear HT HT1;go_upto_if 33 with fail
    go_cut [10] (fun s10 E=>s10=iV tree/\E=w5)
    case first=>as_aux_lemma=>
     by_cases hb:t2=0
     ·have hx:tree=d:=by rw[D3.out,if_pos hb]
      clear D3;subst hx;go_wp2;go_meet;exact⟨rfl,rfl⟩
     ·have hx:tree=V:=by rw[D3.out,if_neg hb]
      clear D3;subst hx;go_wp2;go_meet;exact⟨rfl,rfl⟩
    case rest=>
     obtain⟨rfl,rfl⟩:=hcut;clear D3;go_wp2_with fail;refine(bA base g a c zs _ 100 (by decide) (by decide) _ GI).mono ?_;rintro e w6 ⟨rfl,Iv,N4⟩;generalize nxV zs (nxS zs (nxS zs (nxS zs q))) 100=O at *;generalize nxS zs (nxS zs (nxS zs (nxS zs q)))=p4 at *;go_wp2_with fail;refine(zP base g a c zs p4 _ Iv).mono ?_;rintro e w7 ⟨rfl,WU,V2⟩;have gz:=aII zs p4;generalize (dkR zs p4).1=key at *;generalize (dkR zs p4).2=p5 at *;have xr:Frm (·=g) wr w7:=(((Di.trans GA).trans pa).trans N4).trans V2;have hB:DoB base g a c zs w w7.heap.size ra l y p5 (1,tree,key,{data:=#[]}) (w7.alloc (.cells #[iV 1,iV tree,.string key,.string {data:=#[]}] 33)):=by
      have hz:=xr.size;have Ae:=HW.out.2.2.size;have yj:yO.Rw w7 ra l y:=HW.out.1.ae xr fun r e q=>by have:=HW.out.2.1 r e;omega
      exact⟨WU.below (eU _ _),yj.ae (S:=fun _=>False) (Frm.alloc _ _ _) fun _ _=>id,IsC.new _ _ _,(HW.out.2.2.trans xr).trans (Frm.alloc _ _ _),vm,by omega,fun r e=>⟨HW.out.2.1 r e,by have:=(yj.arr r e).lt;omega⟩⟩
     clear vq vt GI Iv Di GA pa N4 V2 xr HW hS;have v5:=bW zs p5 (n:=26) (by decide) (by decide);go_wp2_with fail;refine(bA base g a c zs p5 26 (by decide) (by decide) _ hB.src).mono ?_;rintro e w8 ⟨rfl,Dp,MG⟩;have IF:=hB.next Dp MG;generalize w7.heap.size=B0 at *;have e1:((l.length:Nat):Int).tmod 26=(l.length:Int) % 26:=Int.tmod_eq_emod_of_nonneg (by omega);have e2:IntKind.i64.wrap ((l.length:Int) % 26)=(l.length:Int) % 26:=IntWalk.i64_in _ ⟨by omega,by omega⟩;have e3:IntKind.i64.wrap (97+(l.length:Int) % 26)=97+(l.length:Int) % 26:=IntWalk.i64_in _ ⟨by omega,by omega⟩;have e4:IntKind.u8.wrap (97+(l.length:Int) % 26)=97+(l.length:Int) % 26:=IntWalk.u8_in _ ⟨by omega,by omega⟩;have UZ:Hid (OP=opB zs f d l (nxS zs p5) (aGD f n l.length (aGC f O)) tree (opY f O l.length key) (txB [65+nxV zs p5 26,97+(l.length:Int) % 26])):=HO.out;generalize nxV zs p5 26=Z at *;generalize nxS zs p5=t at *;have e5:IntKind.i64.wrap (65+Z)=65+Z:=IntWalk.i64_in _ ⟨by omega,by omega⟩;have e6:IntKind.u8.wrap (65+Z)=65+Z:=IntWalk.u8_in _ ⟨by omega,by omega⟩;have hc:=rQ w8 (65+Z) (97+(l.length:Int) % 26) (by omega) (by omega) w8.heap.size rfl;have hvz:(txB [65+Z,97+(l.length:Int) % 26]).size=2:=lO _;generalize txB [65+Z,97+(l.length:Int) % 26]=val at *;have Fm:=IF.bq (eU w8 (.cells #[.int .u8 (65+Z),.int .u8 (97+(l.length:Int) % 26)] 5));have GS:Hid (DoB base g a c zs w B0 ra l y t (1,tree,key,val) ((w8.alloc (.cells #[.int .u8 (65+Z),.int .u8 (97+(l.length:Int) % 26)] 5)).setCell (aD B0 3) (.string val))):=Fm.put 3 (.string val) (1,tree,key,val) rfl;obtain⟨_,_,_,Y,_,_,_,f3⟩:=Fm.cells;clear hB IF Fm Dp MG WU HO;go_upto_region 16 with fail
     generalize (w8.alloc (.cells #[.int .u8 (65+Z),.int .u8 (97+(l.length:Int) % 26)] 5)).setCell (aD B0 3) (.string val)=w9 at *;clear e1 e2 e3 e4 e5 e6 hc Y f3;obtain⟨U,ao⟩:∃U:Bool,decide (f=1/\O<70)=U:=⟨_,rfl⟩;go_cut [57] (fun s57 E=>s57=.bool U/\E=w9)
     case first=>as_aux_lemma=>
      by_cases z:f=1
      ·by_cases D:O<70
       ·have:U=true:=by rw[<-ao];simp[z,D]
        subst this;have q1b:(f == 1)=true:=by simp[z]
        clear ao z;go_wp2;go_meet;exact⟨rfl,rfl⟩
       ·have:U=false:=by rw[<-ao];simp[z,D]
        subst this;have q1b:(f == 1)=true:=by simp[z]
        clear ao z;go_wp2;go_meet;exact⟨rfl,rfl⟩
      ·have:U=false:=by rw[<-ao];simp[z]
       subst this;clear ao;go_wp2;go_meet;exact⟨rfl,rfl⟩
     case rest=>
      obtain⟨rfl,rfl⟩:=hcut;have EN:Hid (aGC f O=if U=true then 0 else O):=by show aGC f O=_;rw[<-ao];unfold aGC;simp
      have IB:Hid (opY f O l.length key=if U=true then ris l.length else key):=by show opY f O l.length key=_;rw[<-ao];unfold opY;simp
      clear ao;generalize aGC f O=J at *;generalize opY f O l.length key=s at *;go_upto_if 57 with fail
      go_cut [11] (fun s11 E=>s11=iV J/\DoB base g a c zs w B0 ra l y t (1,tree,s,val) E)
      case first=>as_aux_lemma=>
       cases U with
       | true=>
        have r1:J=0:=EN.out;have r2:s=ris l.length:=IB.out;clear EN IB;subst r1 r2;go_wp2_with fail;refine(jY l.length (by omega) (by omega) _).mono ?_;rintro e w10 ⟨rfl,we⟩;have CD:=GS.out.bq we;obtain⟨_,_,X,_,_,_,f2,_⟩:=CD.cells;have QO:=CD.put 2 (.string (ris l.length)) (1,tree,ris l.length,val) rfl;clear CD;go_wp2;go_meet;exact⟨rfl,QO⟩
       | false=>
        have r1:J=O:=EN.out;have r2:s=key:=IB.out;clear EN IB;subst r1 r2;go_wp2;go_meet;exact⟨rfl,GS.out⟩
      case rest=>
       obtain⟨rfl,DQ⟩:=hcut;have G:Hid (DoB base g a c zs w B0 ra l y t (1,tree,s,val) wc):=DQ;have e1:((n:Nat):Int).tdiv 2=(n:Int) / 2:=Int.tdiv_eq_ediv_of_nonneg (by omega);have e2:IntKind.i64.wrap ((n:Int) / 2)=(n:Int) / 2:=IntWalk.i64_in _ ⟨by omega,by omega⟩;have ie:0<=J/\J<100:=by rcases Bool.eq_false_or_eq_true U with q | q<;>rw[EN.out,q]<;>simp<;>omega
       have QF:s.size<=12:=by
        have:=aJY l.length
        rcases Bool.eq_false_or_eq_true U with q | q<;>rw[IB.out,q]<;>simp<;>omega
       clear EN IB GS DQ;go_upto_region 19 with fail
       obtain⟨X,be⟩:∃X:Bool,decide (f=3/\(n:Int) / 2<l.length)=X:=⟨_,rfl⟩;go_cut [68] (fun s68 E=>s68=.bool X/\E=wc)
       case first=>as_aux_lemma=>
        by_cases z:f=3
        ·by_cases D:(n:Int) / 2<l.length
         ·have:X=true:=by rw[<-be];simp[z,D]
          subst this;have q1b:(f == 3)=true:=by simp[z]
          clear be z;go_wp2;go_meet;exact⟨rfl,rfl⟩
         ·have:X=false:=by rw[<-be];simp[z,D]
          subst this;have q1b:(f == 3)=true:=by simp[z]
          clear be z;go_wp2;go_meet;exact⟨rfl,rfl⟩
        ·have:X=false:=by rw[<-be];simp[z]
         subst this;clear be;go_wp2;go_meet;exact⟨rfl,rfl⟩
       case rest=>
        obtain⟨rfl,rfl⟩:=hcut;have H8:Hid (aGD f n l.length J=if X=true then J+30 else J):=by show aGD f n l.length J=_;rw[<-be];unfold aGD;simp
        clear be e1 e2;generalize aGD f n l.length J=k at *;have ZM:IntKind.i64.wrap (J+30)=J+30:=IntWalk.i64_in _ ⟨by omega,by omega⟩;go_upto_if 68 with fail
        go_cut [11] (fun s11 E=>s11=iV k/\E=wc)
        case first=>as_aux_lemma=>
         cases X with
         | true=>
          have r1:k=J+30:=H8.out;clear H8;subst r1;go_wp2;go_meet;exact⟨rfl,rfl⟩
         | false=>
          have r1:k=J:=H8.out;clear H8;subst r1;go_wp2;go_meet;exact⟨rfl,rfl⟩
        case rest=>
         obtain⟨rfl,rfl⟩:=hcut;have AX:0<=k/\k<130:=by rcases Bool.eq_false_or_eq_true X with q | q<;>rw[H8.out,q]<;>simp<;>omega
         clear H8 ZM;go_upto_region 21 with fail
         obtain⟨Y,M⟩:∃Y:Bool,decide (55<=k/\k<75\/100<=k)=Y:=⟨_,rfl⟩;go_cut [80] (fun s80 E=>s80=.bool Y/\E=wc)
         case first=>as_aux_lemma=>
          by_cases z:55<=k
          ·by_cases D:k<75
           ·have:Y=true:=by rw[<-M];simp[z,D]
            subst this;clear M;go_wp2;go_meet;exact⟨rfl,rfl⟩
           ·by_cases q3:100<=k
            ·have:Y=true:=by rw[<-M];simp[q3]
             subst this;clear M;go_wp2;go_meet;exact⟨rfl,rfl⟩
            ·have:Y=false:=by rw[<-M];simp[D,q3]
             subst this;clear M;go_wp2;go_meet;exact⟨rfl,rfl⟩
          ·have q3:¬100<=k:=by omega
           have:Y=false:=by rw[<-M];simp[z,q3]
           subst this;clear M;go_wp2;go_meet;exact⟨rfl,rfl⟩
         case rest=>
          obtain⟨rfl,rfl⟩:=hcut;go_upto_if 80 with fail
          go_cut [8] (fun s8 E=>∃(o:TO) (p':St2) (B:Int),s8=iV B/\1<=B/\B<=l.length+2/\Hid (opB zs f d l t k tree s val=(o,p',B))/\DoB base g a c zs w B0 ra l y p' o E)
          case first=>as_aux_lemma=>
           cases Y with
           | true=>
            have I:55<=k/\k<75\/100<=k:=of_decide_eq_true M;have Q:Hid (opB zs f d l t k tree s val=if nxV zs t 2=0/\0<l.length then((2,tree,(l.getD (nxV zs (nxS zs t) l.length).toNat yO.z).2.2.1,val),nxS zs (nxS zs t),d)else((2,tree,s,val),nxS zs t,d)):=by show opB zs f d l t k tree s val=_;unfold opB;rw[if_pos I]
            clear M I;obtain⟨c0,_,_,_,f0,_⟩:=G.out.cells;have T:=toHid' (G.out.put 0 (iV 2) (2,tree,s,val) rfl);have v6:=bW zs t (n:=2) (by decide) (by decide);go_wp2_with fail;refine(bA base g a c zs t 2 (by decide) (by decide) _ T.out.src).mono ?_;rintro e w10 ⟨rfl,ry,zu⟩;have K:=T.out.next ry zu;generalize nxV zs t 2=C at *;obtain⟨b6,nk⟩:∃b6:Bool,(C == 0)=b6:=⟨_,rfl⟩;by_cases z:C=0
            ·by_cases D:0<l.length
             ·have q2i:(0:Int) <(l.length:Int):=by omega
              have A:=toHid' (Q.out.trans (if_pos ⟨z,D⟩));have:b6=true:=by rw[<-nk];simp[z]
              subst this;have v7:=bW zs (nxS zs t) (n:=l.length) (by omega) (by omega);clear Q z;go_wp2_with fail;refine(bA base g a c zs (nxS zs t) l.length (by omega) (by omega) _ K.src).mono ?_;rintro e w11 ⟨rfl,FT,FC⟩;have GZ:=K.next FT FC;obtain⟨j,hj⟩:∃j:Nat,nxV zs (nxS zs t) l.length=(j:Int):=⟨(nxV zs (nxS zs t) l.length).toNat,by omega⟩;rw[hj,Int.toNat_natCast]at A;rw[hj]at v7 |-;obtain⟨r,hr,AX⟩:=GZ.key D (j:=j) (by omega);have uq:(j:Int) <(l.length:Int):=v7.2;rw[hr];obtain⟨_,_,c2,_,_,_,f2,_⟩:=GZ.cells;have QU:=toHid' (GZ.put 2 (.string (l.getD j yO.z).2.2.1) (2,tree,(l.getD j yO.z).2.2.1,val) rfl);generalize (l.getD j yO.z).2.2.1=kk at *;clear K GZ hj;go_wp2;rw[<-hr];go_meet;exact⟨_,_,_,rfl,N,by omega,A,QU.out⟩
             ·have q2i:¬(0:Int) <(l.length:Int):=by omega
              have A:=toHid' (Q.out.trans (if_neg fun q=>D q.2));have:b6=true:=by rw[<-nk];simp[z]
              subst this;clear Q z;go_wp2;go_meet;exact⟨_,_,_,rfl,N,by omega,A,K⟩
            ·have A:=toHid' (Q.out.trans (if_neg fun q=>z q.1))
             have:b6=false:=by rw[<-nk];simp[z]
             subst this;clear Q;go_wp2;go_meet;exact⟨_,_,_,rfl,N,by omega,A,K⟩
           | false=>
            have I:¬(55<=k/\k<75\/100<=k):=of_decide_eq_false M;clear M;go_upto_region 25 with fail
            obtain⟨b4,it⟩:∃b4:Bool,decide (75<=k/\k<81\/f=2/\k<12/\0<k)=b4:=⟨_,rfl⟩;go_cut [114] (fun s114 E=>s114=.bool b4/\E=wc)
            case first=>as_aux_lemma=>
             obtain⟨b5,gi⟩:∃b5:Bool,(f == 2)=b5:=⟨_,rfl⟩;have Ew:b4=(decide (75<=k) && decide (k<81) || b5 && decide (k<12) && decide (0<k)):=by
              rw[<-it,<-gi];by_cases x:f=2<;>simp[x,Bool.decide_or,Bool.decide_and,Bool.and_assoc]
             clear it;by_cases x1:75<=k<;>by_cases x2:k<81<;>by_cases x4:k<12<;>by_cases x5:0<k<;>cases b5
             all_goals
              first
               | (exfalso;omega)
               | (simp[x1,x2,x4,x5]at Ew;subst Ew;go_wp2;go_meet;exact⟨rfl,rfl⟩)
            case rest=>
             obtain⟨rfl,rfl⟩:=hcut;cases b4 with
             | true=>
              have L:75<=k/\k<81\/f=2/\k<12/\0<k:=of_decide_eq_true it;have A:Hid (opB zs f d l t k tree s val=((3,tree,s,val),t,d+1)):=by show opB zs f d l t k tree s val=_;unfold opB;rw[if_neg I,if_pos L]
              obtain⟨c0,_,_,_,f0,_⟩:=G.out.cells;have T:=toHid' (G.out.put 0 (iV 3) (3,tree,s,val) rfl);have hwi:IntKind.i64.wrap (d+1)=d+1:=IntWalk.i64_in _ ⟨by omega,by omega⟩;clear it L I;go_wp2;go_meet;exact⟨_,_,_,rfl,by omega,by omega,A,T.out⟩
             | false=>
              have L:¬(75<=k/\k<81\/f=2/\k<12/\0<k):=of_decide_eq_false it;have F:Hid (opB zs f d l t k tree s val=_):=(if_neg I).trans (if_neg L);obtain⟨c0,c1,c2,c3,f0,f1,f2,f3⟩:=G.out.cells;clear it;by_cases r1:k<81
              ·have x0:¬81<=k:=by omega
               have x1:¬84<=k:=by omega
               have x2:¬91<=k:=by omega
               have x3:¬k=97:=by omega
               have x4:¬k=98:=by omega
               have x5:¬k=99:=by omega
               have A:Hid (opB zs f d l t k tree s val=((1,tree,s,val),t,d)):=by show opB zs f d l t k tree s val=_;rw[F.out,if_neg (by omega),if_neg (by omega),if_neg (by omega),if_neg x3,if_neg x4,if_neg x5]
               clear F I L r1;go_wp2;go_meet;exact⟨_,_,_,rfl,N,by omega,A,G.out⟩
              ·have x0:81<=k:=by omega
               by_cases r2:k<84
               ·have A:Hid (opB zs f d l t k tree s val=((4,nxV zs t d,s,val),nxS zs t,d)):=by show opB zs f d l t k tree s val=_;rw[F.out,if_pos ⟨x0,r2⟩]
                have T:=toHid' (G.out.put 0 (iV 4) (4,tree,s,val) rfl);clear F I L;go_wp2_with fail;refine(bA base g a c zs t d (by omega) (by omega) _ T.out.src).mono ?_;rintro e w10 ⟨rfl,ry,zu⟩;have K:=T.out.next ry zu;generalize nxV zs t d=C at *;obtain⟨_,d1,_,_,_,g1,_⟩:=K.cells;have Me:=toHid' (K.put 1 (iV C) (4,C,s,val) rfl);clear K;go_wp2;go_meet;exact⟨_,_,_,rfl,N,by omega,A,Me.out⟩
               ·have x1:84<=k:=by omega
                by_cases r3:k<91
                ·have A:Hid (opB zs f d l t k tree s val=((5,tree,s,val),t,d)):=by show opB zs f d l t k tree s val=_;rw[F.out,if_neg (by omega),if_pos ⟨x1,r3⟩]
                 have T:=toHid' (G.out.put 0 (iV 5) (5,tree,s,val) rfl);clear F I L;go_wp2;go_meet;exact⟨_,_,_,rfl,N,by omega,A,T.out⟩
                ·have x2:91<=k:=by omega
                 by_cases r4:k<97
                 ·have Q:Hid (opB zs f d l t k tree s val=if 0<l.length then((6,tree,(l.getD (nxV zs t l.length).toNat yO.z).2.2.1,val),nxS zs t,d)else((6,tree,s,val),t,d)):=by show opB zs f d l t k tree s val=_;rw[F.out,if_neg (by omega),if_neg (by omega),if_pos ⟨x2,r4⟩]
                  have JY:=G.out.put 0 (iV 6) (6,tree,s,val) rfl;clear F I L;by_cases D:0<l.length
                  ·have q2i:(0:Int) <(l.length:Int):=by omega
                   have A:=toHid' (Q.out.trans (if_pos D));have v7:=bW zs t (n:=l.length) (by omega) (by omega);clear Q;go_wp2_with fail;refine(bA base g a c zs t l.length (by omega) (by omega) _ JY.src).mono ?_;rintro e w11 ⟨rfl,FT,FC⟩;have GZ:=JY.next FT FC;obtain⟨j,hj⟩:∃j:Nat,nxV zs t l.length=(j:Int):=⟨(nxV zs t l.length).toNat,by omega⟩;rw[hj,Int.toNat_natCast]at A;rw[hj]at v7 |-;obtain⟨r,hr,AX⟩:=GZ.key D (j:=j) (by omega);have uq:(j:Int) <(l.length:Int):=v7.2;rw[hr];obtain⟨_,_,d2,_,_,_,g2,_⟩:=GZ.cells;have QU:=toHid' (GZ.put 2 (.string (l.getD j yO.z).2.2.1) (6,tree,(l.getD j yO.z).2.2.1,val) rfl);generalize (l.getD j yO.z).2.2.1=kk at *;clear GZ JY hj;go_wp2;rw[<-hr];go_meet;exact⟨_,_,_,rfl,N,by omega,A,QU.out⟩
                  ·have q2i:¬(0:Int) <(l.length:Int):=by omega
                   have A:=toHid' (Q.out.trans (if_neg D));have T:=toHid' JY;clear Q JY;go_wp2;go_meet;exact⟨_,_,_,rfl,N,by omega,A,T.out⟩
                 ·by_cases r5:k=97
                  ·have r5b:(k == 97)=true:=by simp[r5]
                   have A:Hid (opB zs f d l t k tree s val=((nxV zs t 10-2,tree,s,val),nxS zs t,d)):=by show opB zs f d l t k tree s val=_;rw[F.out,if_neg (by omega),if_neg (by omega),if_neg (by omega),if_pos r5]
                   have v7:=bW zs t (n:=10) (by decide) (by decide);clear F I L r5;go_wp2_with fail;refine(bA base g a c zs t 10 (by decide) (by decide) _ G.out.src).mono ?_;rintro e w11 ⟨rfl,FT,FC⟩;have K:=G.out.next FT FC;generalize nxV zs t 10=C at *;have so:IntKind.i64.wrap (C-2)=C-2:=IntWalk.i64_in _ ⟨by omega,by omega⟩;obtain⟨d0,_,_,_,g0,_⟩:=K.cells;have Me:=toHid' (K.put 0 (iV (C-2)) (C-2,tree,s,val) rfl);clear K;go_wp2;go_meet;exact⟨_,_,_,rfl,N,by omega,A,Me.out⟩
                  ·by_cases r6:k=98
                   ·have r6b:(k == 98)=true:=by simp[r6]
                    have A:Hid (opB zs f d l t k tree s val=((1,tree,s++s98,val),t,d)):=by show opB zs f d l t k tree s val=_;rw[F.out,if_neg (by omega),if_neg (by omega),if_neg (by omega),if_neg r5,if_pos r6]
                    have QC:s98.size=11:=rfl;have ro:∀W:World,(Op.stringOp .add s s98).run Tryz.prog W=.ok (.string (s++s98)) W:=fun W=>run_string_add_sum (P:=Tryz.prog) (w:=W) s s98 (by omega);have Me:=toHid' (G.out.put 2 (.string (s++s98)) (1,tree,s++s98,val) rfl);clear F I L r6;go_wp2;go_meet;exact⟨_,_,_,rfl,N,by omega,A,Me.out⟩
                   ·by_cases r7:k=99
                    ·have r7b:(k == 99)=true:=by simp[r7]
                     have A:Hid (opB zs f d l t k tree s val=((1,tree,s,s99++val.extract 0 (nxV zs t 2).toNat),nxS zs t,d)):=by show opB zs f d l t k tree s val=_;rw[F.out,if_neg (by omega),if_neg (by omega),if_neg (by omega),if_neg r5,if_neg r6,if_pos r7]
                     clear F I L r7;have v7:=bW zs t (n:=2) (by decide) (by decide);have DN:Hid (∀W:World,Bl wc W->W.heap=wc.heap->Calls Tryz.prog 28 #[pT g 0,iV 2] W fun e w'=>e=.returned (iV (nxV zs t 2))/\DoB base g a c zs w B0 ra l y (nxS zs t) (1,tree,s,val) w'):=fun W hW _=>
                      (bA base g a c zs t 2 (by decide) (by decide) W (G.out.bq hW).src).mono fun e w' ⟨z,D,q3⟩=>⟨z,(G.out.bq hW).next D q3⟩
                     generalize nxV zs t 2=C at *;have h2:C<=(val.size:Int):=by omega
                     have af:(val.extract 0 C.toNat).size=C.toNat:=by rw[ByteArray.size_extract];omega
                     have QC:s99.size=10:=rfl;have ro:∀W:World,(Op.stringOp .add s99 (val.extract 0 C.toNat)).run Tryz.prog W=.ok (.string (s99++val.extract 0 C.toNat)) W:=fun W=>run_string_add_sum (P:=Tryz.prog) (w:=W) s99 (val.extract 0 C.toNat) (by omega);have sa:Hid (∀W:World,DoB base g a c zs w B0 ra l y (nxS zs t) (1,tree,s,val) W->∀W',Bl W W'->DoB base g a c zs w B0 ra l y (nxS zs t) (1,tree,s,s99++val.extract 0 C.toNat) (W'.setCell (aD B0 3) (.string (s99++val.extract 0 C.toNat)))):=fun W h W' h'=>(h.bq h').put 3 _ _ rfl;go_upto_region 42 with fail
                     have Qy:=toHid' (DN.out wc.drew ⟨rfl,rfl,rfl,nR _,fun _ _=>rfl⟩ rfl);go_region_with (go_at_call 28;refine Qy.out.mono ?_;rintro e w11 ⟨rfl,DQ⟩;obtain⟨_,_,_,d3,_,_,_,g3⟩:=DQ.cells;have QP:=toHid' DQ;clear DQ)
                     all_goals
                      go_wp2
                      go_meet
                      exact⟨_,_,_,rfl,N,by omega,A,sa.out _ QP.out _ ⟨rfl,rfl,rfl,nR _,fun _ _=>rfl⟩⟩
                    ·have A:Hid (opB zs f d l t k tree s val=((1,tree,s,val),t,d)):=by show opB zs f d l t k tree s val=_;rw[F.out,if_neg (by omega),if_neg (by omega),if_neg (by omega),if_neg r5,if_neg r6,if_neg r7]
                     clear F I L;go_wp2;go_meet;exact⟨_,_,_,rfl,N,by omega,A,G.out⟩
          case rest=>
           obtain⟨o,p',B,rfl,P7,hj2,Ua,JZ⟩:=hcut;have HE:Hid (R=yZ zs f n m B (l++[o]) p'):=by show R=_;rw[Uf.out,UZ.out,Ua.out]
           obtain⟨c0,c1,c2,c3,_⟩:=JZ.cells;have IN:yO.Own w.heap.size wc (.slice (adr ra) l.length (l.length+y.length)) l:=⟨ra,y,rfl,JZ.row,fun r e=>(JZ.ne r e).1⟩;have aw:=JZ.ae.size;have Lt:Hid (dQ base g a c zs p' wc/\Frm (·=g) w wc):=⟨JZ.src,JZ.ae⟩;clear JZ G Uf UZ Ua;go_wp2_with (first | (at_builtin;refine yO.av rfl _ _ rfl IN rfl o rfl rfl (by omega) aw ?_;intro v' w12 ax bp zw));have LC:=Lt.out.1.lo;refine⟨⟨l++[o],B,p',m,by simp;omega,by simp,rfl,P7,by simp;omega,HE,ax,Lt.out.1.ae zw (fun q=>by omega) (fun b q=>by omega),?_⟩,by simp[intOf];omega⟩;exact((Lt.out.2.wide (S':=fun k=>k=g\/w.heap.size<=k) fun k _ q=>.inl q).trans (zw.wide fun k _ q=>.inr q.1)).wide fun k hk q=>q.elim id fun q=>by omega
abbrev rgR:ByteArray:={data:=#[114]}
abbrev rgS:ByteArray:={data:=#[115]}
abbrev rgE:ByteArray:={data:=#[]}
def xP:Nat->List TO
 | 0=>[]
 | i+1=>xP i++[(1,0,ris i,rgR)]
theorem aAF(n:Nat):(xP n).length=n:=by
 induction n with
 | zero=>rfl
 | succ n ih=>simp[xP,ih]
def uZ(zs:List Int)(r n:Int):Nat->Int->List TO->St2->List TO×St2
 | 0,_,l,q=>(l,q)
 | m+1,i,l,q=>if i<n then uZ zs r n m (i+5+nxV zs (nxS zs q) 8) (l++[(if nxV zs q 3=0 then 2 else 1,r,ris i,rgS)]) (nxS zs (nxS zs q))else(l,q)
def aMO(zs:List Int)(r n:Int)(l:List TO)(q:St2):List TO×St2:=uZ zs r n 200 (nxV zs q 9) (l++[(5,0,rgE,rgE)]++[(3,0,rgE,rgE)]) (nxS zs q)
def iX(zs:List Int)(n:Nat)(p1:St2):Nat->List TO×St2
 | 0=>(xP n,p1)
 | j+1=>aMO zs ((j:Int)+1) n (iX zs n p1 j).1 (iX zs n p1 j).2
def aAH(zs:List Int)(p:St2):List TO×St2:=iX zs (60+nxV zs p 140).toNat (nxS zs p) 2
structure DrI(base g:Nat)(a:Option Addr)(c:Nat)(zs:List Int)(w:World)(ov:Value)(l:List TO)(q:St2)(wr:World):Prop where
 own:yO.Own w.heap.size wr ov l
 src:dQ base g a c zs q wr
 ae:Frm (·=g) w wr
section
variable {base g : Nat} {a : Option Addr} {c : Nat} {zs : List Int} {w : World} {ov : Value} {l : List TO} {q : St2} {wr : World}
theorem DrI.next(h:DrI base g a c zs w ov l q wr)(f:g<w.heap.size){q':St2}{wy:World}(d:dQ base g a c zs q' wy)(b:Frm (·=g) wr wy):DrI base g a c zs w ov l q' wy:=
 ⟨h.own.ae b fun r i e=>by omega,d,h.ae.trans b⟩
theorem DrI.bq(h:DrI base g a c zs w ov l q wr){wy:World}(b:Bl wr wy):DrI base g a c zs w ov l q wy:=⟨h.own.below b,h.src.below b,h.ae.trans (Frm.aa b)⟩
theorem DrI.app(h:DrI base g a c zs w ov l q wr)(f:g<w.heap.size){ov':Value}{l':List TO}{wy:World}(e:yO.Own w.heap.size wy ov' l')(d:Frm (fun k=>w.heap.size<=k/\∃cs,IsC wr k cs yO.t) wr wy):DrI base g a c zs w ov' l' q wy:=by
 have j:=h.src.lo;exact⟨e,h.src.ae d (fun q=>by omega) fun b q=>by omega,((h.ae.wide (S':=fun k=>k=g\/w.heap.size<=k) fun k _ q=>.inl q).trans (d.wide fun k _ q=>.inr q.1)).wide fun k i q=>q.elim id fun q=>by omega⟩
end
theorem aAG(zs:List Int)(r n:Int):∀(m:Nat) (i:Int) (l:List TO) (q:St2),(uZ zs r n m i l q).1.length<=l.length+m
 | 0,i,l,q=>by simp[uZ]
 | m+1,i,l,q=>by
  unfold uZ;split
  ·have:=aAG zs r n m (i+5+nxV zs (nxS zs q) 8) (l++[(if nxV zs q 3=0 then 2 else 1,r,ris i,rgS)]) (nxS zs (nxS zs q))
   simp at this;omega
  ·simp only;omega
