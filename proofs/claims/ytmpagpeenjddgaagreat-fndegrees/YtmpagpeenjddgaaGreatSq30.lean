import Derived.Test.YtmpagpeenjddgaaGreatDv0
set_option maxHeartbeats 9999999
set_option maxRecDepth 99999
set_option linter.all false
namespace Go.Proofs.YtmpagpeenjddgaaGreat
open Go.RowKit Fo
variable{a x:Array Value}{B S base k:Nat}{A:SA}{α:Type}{u:Value}{w w':World}{f:fZ}
structure Frs(w:World)(n B2 B3 gc:Nat)(cj:List Int)(tv:Value)(j:Nat)(wr:World):Prop where
 b2:IsC wr B2 #[iV 0,.slice none 0 0,.slice none 0 0,iV 0,iV 0,.slice none 0 0,.slice none 0 0] 58
 c:IsC wr gc (y64.row (List.replicate n 0++cj)) 2
 bk:Bl w wr
 ex:∃ag jk,IsC wr B3 #[iV n,.slice (adr ag) j (j+jk.length),.slice none 0 0,iV 1,iV 1,sL gc 0 n (n+cj.length),tv] 58/\yN.Rw wr ag (List.replicate j nv0) jk/\∀g,ag=some g->w.heap.size<=g
structure FrP(w:World)(n:Nat)(e:Ending)(w':World):Prop where
 ex:∃A,e=.returned (.agg (aL A (aJ n)))/\SpV w' A (aJ n)/\∃a k c,A.tv=.slice a k c
 bk:Bl w w'
theorem aFM(h:IsC w B x 58)(hx:x.size=7)(e:a.getD 2 undef=pT B 0):(results Tryz.f31 a).run Tryz.prog w=.ok (.agg x) w:=by
 have l:=kE h (by kernel_rfl) (by rw[hx];kernel_rfl);simp only[Array.getD_eq_getD_getElem?]at e;simp[results,Tryz.f31,e,asAddr,l]
theorem zR(n:Nat)(h8:8<=n)(h5:n<=512)(w:World):Calls Tryz.prog 31 #[iV n] w (FrP w n):=by
 obtain⟨B2,c9⟩:=eZ (w.heap.size);obtain⟨w1,bx⟩:=eZ (w.alloc (.cells #[iV 0,.slice none 0 0,.slice none 0 0,iV 0,iV 0,.slice none 0 0,.slice none 0 0] 58));have e1:=bAl bx;have c1:=iNw bx c9;go_enter Tryz.func31,Tryz.ntmps31;go_wp2_with fail;refine(qE n h5 w1).mono ?_;rintro e w2 ⟨u,rfl,⟨s,l,rfl,o,V⟩,be⟩;obtain⟨a,rfl⟩:∃g,s=some g:=by
  cases s with
  | none=>have e:=(o.nil rfl).1;have:=congrArg List.length e;rw[List.length_replicate,List.length_nil]at this;omega
  | some g=>exact⟨g,rfl⟩
 have zi:IsC w2 a (y64.row (List.replicate n 0++l)) 2:=o.arr a rfl;have bu:=V a rfl;have mw:=o.small;rw[List.length_replicate]at mw;simp only[adr,Option.map_some,List.length_replicate];obtain⟨q,hq⟩:=eZ (w2.heap.size);obtain⟨w3,di⟩:=eZ (w2.alloc (.cells #[iV 3] 2));obtain⟨B3,fv⟩:=eZ (w3.heap.size);obtain⟨w4,ci⟩:=eZ (w3.alloc (.cells #[iV n,.slice none 0 0,.slice none 0 0,iV 1,iV 1,sL a 0 n (n+l.length),sL q 0 1 1] 58));have E:=bAl di;have b34:=bAl ci;have M:=E.trans (b34.mono E.size);have K:=e1.trans (be.mono e1.size);have b04:=K.trans (M.mono K.size);have i3:=iNw ci fv;have i2:=(c1.of (be.block _ c1.lt)).of (M.block _ (lL c1.lt be.size));have ic:=zi.of (M.block _ zi.lt);have n23:B2≠B3:=by have:=c1.lt;have:=be.size;have:=E.size;omega
 have l3:w.heap.size<=B3:=by have:=K.size;have:=E.size;omega
 have RE:w.heap.size<=B2:=Nat.le_of_eq c9;have ly:Hid (Frs w n B2 B3 a l (sL q 0 1 1) 0 w4):=⟨i2,ic,b04,none,[],i3,⟨fun g e=>(by cases e),fun _=>⟨rfl,rfl⟩,by simp⟩,fun g e=>(by cases e)⟩;have Sh:w.heap.size<=a:=by have:=e1.size;omega
 clear i2 i3 ic c1 zi o V c9;go_wp2;go_loopw [4] (fun i wr=>∃j:Nat,j<=n/\i=iV j/\Frs w n B2 B3 a l (sL q 0 1 1) j wr) (fun i _=>n -(intOf i).toNat)
 case atStart=>exact⟨0,by omega,rfl,ly.out⟩
 case round=>
  clear ly bx di ci;obtain⟨j,hj,rfl,h⟩:=hrel;obtain⟨s,m,H,o,V⟩:=h.ex;have m1:wr.cell? (aD B3 1)=some (.slice (adr s) j (j+m.length)):=H.c rfl;by_cases ai:j<n
  ·have eX:(j:Int) <(n:Int):=by omega
   have au:∀g,s=some g->g≠B2/\g≠B3/\g≠a:=fun g e=>⟨(o.arr g e).ab h.b2 (by decide),(o.arr g e).ab H (by decide),(o.arr g e).ab h.c (by decide)⟩;have Wr:Hid (∀(F:Option Nat) (c:List NV) (C:World),yN.Rw C F (List.replicate j nv0++[nv0]) c->(∀g,F=some g->s=some g\/wr.heap.size<=g)->Frm (fun k=>s=some k) wr C->(IsC C B3 #[iV n,.slice (adr s) j (j+m.length),.slice none 0 0,iV 1,iV 1,sL a 0 n (n+l.length),sL q 0 1 1] 58/\Frs w n B2 B3 a l (sL q 0 1 1) (j+1) (C.setCell (aD B3 1) (.slice (adr F) (j+1) (j+1+c.length))))):=fun F c C h1 h2 h3=>by
    have I:=H.ae h3 (fun e=>(au _ e).2.1 rfl);have b7:=h.b2.ae h3 (fun e=>(au _ e).1 rfl);have c7:=h.c.ae h3 (fun e=>(au _ e).2.2 rfl);have be7:Bl w C:=h.bk.trans (h3.below h.bk.size fun g e=>V g e);refine⟨I,b7.set_ne _ n23,c7.set_ne _ (c7.ab I (by decide)),be7.trans ((bQ _ C).setCell (p:=aD B3 1) l3 _),F,c,?_,?_,?_⟩
    ·have:=I.set 1 (.slice (adr F) (j+1) (j+1+c.length))
     simpa using this
    ·have e:List.replicate (j+1) nv0=List.replicate j nv0++[nv0]:=by rw[List.replicate_succ']
     rw[e];exact h1.ae (Frm.set (S:=fun k=>k=B3) C (p:=aD B3 1) rfl _) (fun g eg=>(h1.arr g eg).ab I (by decide))
    ·intro g eg
     rcases h2 g eg with q | q
     ·exact V g q
     ·have:=h.bk.size;omega
   have ah:(List.replicate j nv0).length=j:=List.length_replicate;have Mp:yN.Rw wr s (List.replicate j nv0) m:=o;have m1':wr.cell? (aD B3 1)=some (.slice (adr s) (List.replicate j nv0).length ((List.replicate j nv0).length+m.length)):=by rw[ah];exact m1
   have UX:=aA ah;clear h H o ah m1;generalize List.replicate j nv0=zs at *;go_wp2_with (first | (at_builtin;refine yN.cm rfl _ _ rfl Mp rfl nv0 rfl rfl (by rw[UX.out];omega) ?_;intro F c C z1 z2 z3;obtain⟨I,H4⟩:=Wr.out F c C z1 z2 z3;have m7:C.cell? (aD B3 1)=some (.slice (adr s) j (j+m.length)):=(I.c rfl);have f7:=I.frozen 1;rw[lP,UX.out];clear z1 z2 z3 I) | go_in);refine⟨⟨j+1,by omega,by go_num,H4⟩,?_⟩;simp[intOf];omega
  ·obtain rfl:j=n:=by omega
   obtain⟨f,rfl⟩:∃g,s=some g:=by
    cases s with
    | none=>have e:=(o.nil rfl).1;have:=congrArg List.length e;rw[List.length_replicate,List.length_nil]at this;omega
    | some g=>exact⟨g,rfl⟩
   have lw:=V f rfl;have D:jD wr f (List.replicate j nv0) m (fun _=>none):=⟨o.arr f rfl,fun b d e=>(by cases e),o.small⟩;have ut:(List.replicate j nv0).length=j:=List.length_replicate;have NO:NdR wr (1,none,0,0) (1,[]):=⟨rfl,.inl ⟨rfl,rfl⟩,by simp⟩;have AO:=D.set2 (q:=2) (by rw[ut];omega) NO;have n13:f≠B3:=D.arr.ab H (by decide);have n12:f≠B2:=D.arr.ab h.b2 (by decide);have n1c:f≠a:=D.arr.ab h.c (by decide);have X:a≠B3:=h.c.ab H (by decide);have Y:=eL wr f 2 (1,none,0,0);have x4:wr.cell? (aD f 4)=some (iV 0):=by
    have:=yN.at (List.replicate j nv0++m) (i:=2) (j:=0) (by simp;omega) (by decide)
    rw[D.arr.cell];rw[dC,if_pos (by rw[ut];omega)]at this;have e2:(List.replicate j nv0).getD 2 yN.z=nv0:=by rw[gD,List.getElem?_replicate];split<;>rfl
    rw[e2]at this;exact this
   have x5:wr.cell? (aD f 5)=some (.slice none 0 0):=by
    have:=yN.at (List.replicate j nv0++m) (i:=2) (j:=1) (by simp;omega) (by decide)
    rw[D.arr.cell];rw[dC,if_pos (by rw[ut];omega)]at this;have e2:(List.replicate j nv0).getD 2 yN.z=nv0:=by rw[gD,List.getElem?_replicate];split<;>rfl
    rw[e2]at this;exact this
   have f4:=D.arr.frozen 4;have f5:=D.arr.frozen 5;have Db:∃W,(wr.setCell (aD f 4) (iV 1)).setCell (aD f 5) (.slice none 0 0)=W:=⟨_,rfl⟩;obtain⟨W1,Db⟩:=Db;have MU:set2 wr f 2 (1,none,0,0)=W1:=Db;rw[MU]at AO Y;have U:=H.ae Y (fun e=>n13 e.symm);have L:=h.b2.ae Y (fun e=>n12 e.symm);have Q:=h.c.ae Y (fun e=>n1c e.symm);have O:Bl w W1:=h.bk.trans (Y.below h.bk.size fun g e=>by rw[e];exact lw);obtain⟨gr,bh⟩:=eZ (W1.heap.size);obtain⟨W2,AR⟩:=eZ (W1.alloc (.cells #[iV 0,iV 2] 92));have x:=bAl AR;have ir:=iNw AR bh;have z:=U.of (x.block _ U.lt);have b22:=L.of (x.block _ L.lt);have c02:=Q.of (x.block _ Q.lt);have uf:=AO.below x;have m2:W2.cell? (aD B3 2)=some (.slice none 0 0):=z.c rfl;have z2:=z.frozen 2;have B:=z.set 2 (sL gr 0 1 1);have J:Frm (fun k=>k=B3) W2 (W2.setCell (aD B3 2) (sL gr 0 1 1)):=Frm.set (S:=fun k=>k=B3) W2 (p:=aD B3 2) rfl _;obtain⟨W3,C7⟩:=eZ (W2.setCell (aD B3 2) (sL gr 0 1 1));rw[C7]at B J;have nr3:gr≠B3:=ir.ab z (by decide);have G:=b22.ae J (fun e=>n23 e);have y:=c02.ae J (fun e=>X e);have T:=ir.ae J (fun e=>nr3 e);have sx:=uf.ae J (fun g cs hg e=>by subst e;exact hg.ab z (by decide) rfl) (fun e=>n13 e);have T3:(List.replicate j (0:Int)).length=j:=List.length_replicate;have y2:=eD y (i:=2) (by rw[T3];omega);have fz2:=y.frozen 2;have A:=iH y (i:=2) (by rw[T3];omega) 1;have F4:Frm (fun k=>k=a) W3 (W3.setCell (aD a 2) (iV 1)):=Frm.set (S:=fun k=>k=a) W3 (p:=aD a 2) rfl _;obtain⟨W4,Nh⟩:=eZ (W3.setCell (aD a 2) (iV 1));rw[Nh]at A F4;have y3:=eD A (i:=3) (by simp;omega);have fz3:=A.frozen 3;have R:=iH A (i:=3) (by simp;omega) 1;have F5:Frm (fun k=>k=a) W4 (W4.setCell (aD a 3) (iV 1)):=Frm.set (S:=fun k=>k=a) W4 (p:=aD a 3) rfl _;obtain⟨W5,C8⟩:=eZ (W4.setCell (aD a 3) (iV 1));rw[C8]at R F5;have r:=F4.trans F5;have k35:=B.ae r (fun e=>X e.symm);have k34:=B.ae F4 (fun e=>X e.symm);have n2c:B2≠a:=fun e=>h.c.ab h.b2 (by decide) e.symm;have N:=G.ae r (fun e=>n2c e);have nrc:gr≠a:=T.ab y (by decide);have ir5:=T.ae r (fun e=>nrc e);have jo:=sx.ae r (fun g cs hg e=>by subst e;exact hg.ab y (by decide) rfl) (fun e=>n1c e);have P:Bl w W5:=by
    have q1:=O.trans (x.mono O.size);have q2:=q1.trans (J.below q1.size fun g e=>by rw[e];exact l3);exact q2.trans (r.below q2.size fun g e=>by rw[e];exact Sh)
   have m53:W3.cell? (aD B3 5)=some (sL a 0 j (j+l.length)):=B.c rfl;have m54:W4.cell? (aD B3 5)=some (sL a 0 j (j+l.length)):=k34.c rfl;have ef:((List.replicate j nv0).set 2 (1,none,0,0)).length=j:=by simp
   have ap:(((List.replicate j (0:Int)).set 2 1).set 3 1).length=j:=by simp
   have hV:SpV W5 {ga:=f,ns:=(List.replicate j nv0).set 2 (1,none,0,0),nj:=m,gr:=gr,rj:=[],cv:=sL a 0 j (j+l.length),tv:=sL q 0 1 1} (aJ j):=by
    refine⟨⟨jo.arr,fun b d hd=>?_,jo.small⟩,?_,?_,by simp[aJ,maxLen],.inr ⟨a,0,j+l.length,((List.replicate j (0:Int)).set 2 1).set 3 1++l,?_,R,?_,?_⟩⟩
    ·refine jo.nd b d ?_
     rw[<-hd];show upd (fun _=>none) 2 (some (1,[])) b=if b=2 then some (1,[])else none
     rfl
    ·simp[aJ]
    ·have:=ir5
     simpa [aJ,Ely.row,yT,aW] using this
    ·simp[aJ]
    ·simp[aJ]
    ·simp[aJ]
   have Vq:#[iV j,sL f 0 j (j+m.length),sL gr 0 1 1,iV 1,iV 1,sL a 0 j (j+l.length),sL q 0 1 1]=aL {ga:=f,ns:=(List.replicate j nv0).set 2 (1,none,0,0),nj:=m,gr:=gr,rj:=[],cv:=sL a 0 j (j+l.length),tv:=sL q 0 1 1} (aJ j):=by
    simp[aL,aJ]
   have kx:IsC W5 B3 #[iV j,sL f 0 j (j+m.length),sL gr 0 1 1,iV 1,iV 1,sL a 0 j (j+l.length),sL q 0 1 1] 58:=by simpa [adr] using k35
   have Ah:Hid (∀wa:World,Frm (fun k=>k=B2) W5 wa->FrP w j (.returned (.agg #[iV j,sL f 0 j (j+m.length),sL gr 0 1 1,iV 1,iV 1,sL a 0 j (j+l.length),sL q 0 1 1])) wa):=fun wa hF=>by
    rw[Vq];refine⟨⟨_,rfl,?_,⟨_,_,_,rfl⟩⟩,P.trans (hF.below P.size fun g e=>by rw[e];exact RE)⟩;refine hV.ae hF (fun g cs t ht hg e=>?_);subst e;refine hg.ab N ?_ rfl;rcases ht with e | e | e | e<;>rw[e]<;>decide
   have fh:(#[iV j,sL f 0 j (j+m.length),sL gr 0 1 1,iV 1,iV 1,sL a 0 j (j+l.length),sL q 0 1 1]).all (·.oneCell')=true:=by simp[Value.oneCell']
   have Z:(#[iV j,sL f 0 j (j+m.length),sL gr 0 1 1,iV 1,iV 1,sL a 0 j (j+l.length),sL q 0 1 1]).size=7:=rfl;generalize (#[iV j,sL f 0 j (j+m.length),sL gr 0 1 1,iV 1,iV 1,sL a 0 j (j+l.length),sL q 0 1 1])=XS at kx Ah fh Z;have Pi:(2:Int) <(j:Int):=by omega
   have h3i:(3:Int) <(j:Int):=by omega
   have r1:wr.cell? (aD B3 1)=some (sL f 0 j (j+m.length)):=m1;have KX:=aA kx;have B25:=aA N;clear Vq hV D AO uf sx jo H U z B k34 k35 kx L b22 G N Q c02 y A R ir T ir5 Y J F4 F5 r x O P h o V NO MU m1 ut T3 ef ap;generalize (List.replicate j (0:Int)).getD 2 0=v2 at *;generalize ((List.replicate j (0:Int)).set 2 1).getD 3 0=v3 at *;go_upto_region 10 with fail
   refine wp_region_list ?_;refine wpList_plain rfl (fun K2 ae=>?_);refine cP _ rfl B3 KX.out rfl Z ?_;refine ae _ _ ?_;clear ae K2;simp only[Act.put,sB,sZ,sS];refine wpList_plain rfl (fun K2 ae=>?_);refine aM _ _ _ rfl B2 B25.out rfl rfl Z (by rw[Z];kernel_rfl) fh fun wa ja jaF=>?_;refine ae _ _ ?_;clear ae K2;refine wpList_nil ?_;simp only[Act.put,sB,sZ,sS];have W0:=aA (Ah.out wa jaF);clear Ah jaF;go_wp2;refine bodyPost_ret (v:=.agg XS) (aFM ja Z rfl) rfl ?_;exact W0.out
structure CmP(w:World)(S:Nat)(f:fZ)(e:Ending)(w':World):Prop where
 ex:∃A' a0 n0 c0 a1 n1 c1 rv,e=.returned (.tuple #[.slice a0 n0 c0,.slice a1 n1 c1,rv,iV (cQ f).2.1])/\((n0:Int)+(n1:Int))=(cQ f).2.2.1/\n0<=512/\n1<=512/\Sp w' S A' (cQ f).1/\∃a k c,A'.tv=.slice a k c
 ae:Frm (fun k=>k=S) w w'
theorem CmP.bad(h:Sp w S A f)(d:∃a k c,A.tv=.slice a k c){c:Int}(hc:cQ f=(f,c,0,.empty))(b:Bl w w'):CmP w S f (.returned (.tuple #[.slice none 0 0,.slice none 0 0,.slice none 0 0,iV c])) w':=
 ⟨⟨A,none,0,0,none,0,0,.slice none 0 0,by rw[hc],by rw[hc];rfl,by omega,by omega,by rw[hc];exact h.below b,d⟩,Frm.aa b⟩
theorem CmP.good{w3:World}(h:Sp w S A f)(q:Inv f){p:List Int}(hc:cQ f=(dS f p,0,(dZ f:Int)+(p.length:Int),.empty))(j:Bl w w3){gc:Nat}{cj:List Int}(n:IsC w3 gc (y64.row (bK f.c p++cj)) 2)(y:w.heap.size<=gc)(s:p.length<=512)(a0 a:Option Addr)(i b:Nat)(l:Value):
  CmP w S f (.returned (.tuple #[.slice a0 (dZ f) i,.slice a p.length b,l,iV 0])) (((w3.setCell (aD S 5) (sL gc 0 f.c.length (f.c.length+cj.length))).setCell (aD S 6) (.slice a p.length b)).setCell (aD S 4) (iV (f.gen+1))):=by
 have d:gc≠S:=by have:=h.box.lt;omega
 have o:=h.box.of (j.block _ h.box.lt);have u:=o.set 5 (sL gc 0 f.c.length (f.c.length+cj.length));have v:=u.set 6 (.slice a p.length b);have x:=v.set 4 (iV (f.gen+1));have F:Frm (fun k=>k=S) w (((w3.setCell (aD S 5) (sL gc 0 f.c.length (f.c.length+cj.length))).setCell (aD S 6) (.slice a p.length b)).setCell (aD S 4) (iV (f.gen+1))):=
  (((Frm.aa j).trans (Frm.set (S:=fun k=>k=S) w3 (p:=aD S 5) rfl _)).trans (Frm.set (S:=fun k=>k=S) _ (p:=aD S 6) rfl _)).trans (Frm.set (S:=fun k=>k=S) _ (p:=aD S 4) rfl _)
 have c:=h.v.ae F (fun g cs t ht r e=>by
  subst e;refine r.ab h.box ?_ rfl;rcases ht with e | e | e | e<;>rw[e]<;>decide)
 have m:=((n.set_ne (p:=aD S 5) (sL gc 0 f.c.length (f.c.length+cj.length)) d).set_ne (p:=aD S 6) (.slice a p.length b) d).set_ne (p:=aD S 4) (iV (f.gen+1)) d;have B:=vI f;have z:=q.ic.al;refine⟨⟨{A with cv:=sL gc 0 f.c.length (f.c.length+cj.length),tv:=.slice a p.length b},a0,dZ f,i,a,p.length,b,l,by rw[hc],by rw[hc],by omega,s,?_,⟨_,_,_,rfl⟩⟩,F⟩;rw[hc];refine⟨?_,c.aq,c.ln,c.bp,c.rs,.inr ⟨gc,0,f.c.length+cj.length,bK f.c p++cj,?_,m,?_,?_⟩⟩
 ·simpa [aL,dS] using x
 ·show Value.slice _ _ _=_
  have e:(dS f p).m.length=f.c.length:=jC _ _;rw[e];simp
 ·show 0+(bK f.c p).length<=_
  simp
 ·show((bK f.c p++cj).drop 0).take (bK f.c p).length=_
  simp[dS]
theorem xS(c p:List Int)(j:Nat)(h:j<p.length):bK c (p.take (j+1))=(bK c (p.take j)).set (p.getD j 0).toNat 1:=by
 rw[cO p j 0 h];unfold bK;rw[List.foldl_append];rfl
theorem aFH(h:0<cu f k)(h2:co f k=0):(dE f (k+1)).map (fun x:Nat=>(x:Int))=(dE f k).map (fun x:Nat=>(x:Int))++[(k:Int)]:=by
 show(dE f k++if 0<cu f k/\co f k=0 then [k]else []).map _=_
 rw[if_pos ⟨h,h2⟩,List.map_append];rfl
theorem aIG(h:¬(0<cu f k/\co f k=0)):(dE f (k+1)).map (fun x:Nat=>(x:Int))=(dE f k).map (fun x:Nat=>(x:Int)):=by
 show(dE f k++if 0<cu f k/\co f k=0 then [k]else []).map _=_
 rw[if_neg h,List.append_nil]
theorem xB(m:Inv f)(w:World)(S:Nat)(A:SA)(h:Sp w S A f)(kh:∃a k c,A.tv=.slice a k c):
  Calls Tryz.prog 32 #[pT S 0] w (CmP w S f):=by
 have h8:=m.ic.n8;have h5:=m.ic.al;have OD:=m.gn;have Vf:=h.box.lt;obtain⟨s0,_,_,_,s4,_,_⟩:=h.cells;have jm:=aA fun(w':World) (c:Int) (X:cQ f=(f,c,0,.empty)) (C:Bl w w')=>CmP.bad h kh X C;by_cases hg:1099511627776<=f.gen
 ·have K:Hid (cQ f=(f,4,0,.empty)):=by unfold cQ;rw[if_pos hg];rfl
  go_enter Tryz.func32,Tryz.ntmps32
  go_wp2
  refine bodyPost_ret (v:=.tuple #[.slice none 0 0,.slice none 0 0,.slice none 0 0,iV 4]) (by simp[results,Tryz.results32,go_sem]) rfl ?_;exact jm.out _ _ K.out (bQ _ _)
 ·go_enter Tryz.func32,Tryz.ntmps32
  go_wp2_with fail
  refine(iL m.ic (fun x=>by have:=m.counts x;omega) (fun b d hd=>by have:=m.ai hd;omega) w S A h (by have:=m.br;omega)).mono ?_;rintro r w1 ⟨u,rfl,⟨ag,U,rfl,P,lj⟩,N⟩;obtain⟨t,rfl⟩:∃g,ag=some g:=by
   cases ag with
   | none=>have e:=(P.nil rfl).1;rw[e]at h8;simp at h8
   | some g=>exact⟨g,rfl⟩
  have zi:IsC w1 t (y64.row (f.c++U)) 2:=P.arr t rfl;have bu:=lj t rfl;have mw:=P.small;have Q:=h.below N;obtain⟨_,_,_,_,_,s5,_⟩:=Q.cells;obtain⟨V,om,cm,T,BF,_,zg⟩:=nI Q.v.m (by rw[m.ic.len];omega);have qe:Nts w1 (sL t 0 f.c.length (f.c.length+U.length)) f.c:=Ely.Sl.c3 P.sl (fun i=>by have:=m.counts i;have e:f.c.getD i 0=cu f i:=rfl;rw[e];omega);have Dm:Nts w1 (sL V om f.m.length cm) f.m:=by
   rw[<-T];exact Ely.Sl.c3 Q.v.m (fun i=>by have:=m.db i;have e:f.m.getD i 0=co f i:=rfl;rw[e];omega)
  rw[T]at s5;have Y6:V<w.heap.size:=by
   rcases h.v.m with⟨e,_⟩ | ⟨g,o,cap,xs,e,k,_⟩
   ·rw[T]at e;cases e
   ·rw[T]at e;cases e;exact k.lt
  simp only[adr,Option.map_some];have HL:Hid (f.m.length=f.c.length):=m.ic.len;have HZ:=aA zi;have Y0:=zi.lt;have s41:w1.cell? (aD S 4)=some (iV f.gen):=Q.cells.2.2.2.2.1;clear T P lj zi Q;go_wp2_with fail;refine(aCA _ _ _ _ f.c f.m w1 qe Dm (aDM m)).mono ?_;rintro e n ⟨a0,c0,a1,c1,l0,u0,l1,u1,rfl,q1,q2,q3,q4,_,W,_,G⟩;have H:=N.trans (G.mono N.size);have tj:=tI f.c f.m;have Uo:=aA (rD (zs:=f.c) (ys:=f.m));have J:Hid (cQ f=if 1099511627776<=f.gen then(f,4,0,.empty)else if plC f.c f.m≠0 then(f,plC f.c f.m,0,.empty)else(dS f (plP f.c f.m),0,(dZ f:Int)+((plP f.c f.m).length:Int),.empty)):=(rfl:cQ f=_);obtain⟨pc,I⟩:=eZ (plC f.c f.m);obtain⟨p,Y⟩:=eZ (plP f.c f.m);obtain⟨rs,MS⟩:=eZ (plR f.c f.m);rw[I,Y]at J;rw[Y]at Uo tj W;rw[I,Y,MS];clear I Y MS qe Dm;by_cases X:pc=0
  ·subst X
   have K:Hid (cQ f=(dS f p,0,(dZ f:Int)+(p.length:Int),.empty)):=by
    have:=J.out;rw[if_neg (by omega),if_neg (by simp)]at this;exact this
   have Ae:IsC n t (y64.row (f.c++U)) 2:=HZ.out.of (G.block _ HZ.out.lt);have Q6:=aA Ae;have OC:=Ae.lt;have VU:=aA W;have ay:∀(w':World),Bl n w'->Sp w' S A f:=fun w' C=>h.below (H.trans (C.mono H.size));have pq:=aA ay;have s02:n.cell? (aD S 0)=some (iV f.c.length):=(ay n (bQ _ _)).cells.1;have ud:=aA fun(w':World) (k:Nat) (C:Bl n w') (hk:k<f.c.length)=>zg w' k ((C.block V (lL BF G.size)).trans (G.block V BF)) (by rw[HL.out];exact hk);have Cw:=aA fun(w':World) (C:Bl n w')=>(C.cell (p:=aD S 5) (lL Vf H.size)).trans ((G.cell (p:=aD S 5) (lL Vf N.size)).trans s5);clear ay Ae W zg J;go_wp2;go_loopw [10,11] (fun d i wr=>∃k:Nat,k<=f.c.length/\i=iV k/\y64.Own n.heap.size wr d ((dE f k).map fun x:Nat=>(x:Int))/\Bl n wr) (fun _ i _=>f.c.length -(intOf i).toNat)
   case atStart=>exact⟨0,by omega,rfl,Ely.Own.lit _ n (nR _) _ rfl,(bQ _ n).alloc (nR _) _⟩
   case round=>
    obtain⟨k,vn,rfl,B,l⟩:=hrel;have cx:=pq.out wr l;have t0:=cx.cells.1;have t5:=Cw.out wr l;by_cases z:k<f.c.length
    ·have x0:=eD (Q6.out.of (l.block _ OC)) z
     have x1:=ud.out wr k l z;have jl:(k:Int) <(f.c.length:Int):=by omega
     have Dl:(k:Int) <(f.m.length:Int):=by rw[HL.out];omega
     have BT:=l.size;have sj:((dE f k).map fun x:Nat=>(x:Int)).length<1000000:=by have:=kW f k;simp;omega
     have M:=aA (aFH (f:=f) (k:=k));have F:=aA (aIG (f:=f) (k:=k));unfold cu co at M F;generalize f.c.getD k 0=x at *;generalize f.m.getD k 0=y at *;clear cx pq;by_cases hx:0<x
     ·by_cases hy:y=0
      ·have L:=aA (M.out hx hy)
       clear M F;go_wp2_with (first | (at_builtin;refine y64.av rfl _ _ rfl B rfl (k:Int) rfl rfl sj BT ?_;intro v' w3 ax bp k3) | go_in);rw[<-L.out]at ax;go_roundw
       case rel=>exact⟨k+1,by omega,by go_num,ax,l.trans bp⟩
       case measure=>simp[intOf];omega
      ·have L:=aA (F.out (fun q=>hy q.2))
       clear M F;rw[<-L.out]at B;go_wp2;go_roundw
       case rel=>exact⟨k+1,by omega,by go_num,B,l⟩
       case measure=>simp[intOf];omega
     ·have L:=aA (F.out (fun q=>hx q.1))
      clear M F;rw[<-L.out]at B;go_wp2;go_roundw
      case rel=>exact⟨k+1,by omega,by go_num,B,l⟩
      case measure=>simp[intOf];omega
    ·obtain⟨w5,rfl⟩:∃w5,w5=wr:=⟨wr,rfl⟩
     obtain rfl:k=f.c.length:=by omega
     obtain⟨da,dc,V0⟩:=B.sl.len;have MF:((dE f f.c.length).map fun x:Nat=>(x:Int)).length=dZ f:=by simp[dZ]
     rw[MF]at V0;subst V0;have xm:=Q6.out.of (l.block _ OC);have Ud:=aA (VU.out.below l);have BT:=l.size;have Aw:=H.trans (l.mono H.size);clear B cx pq ud Cw t5 VU MF;go_wp2;go_loopw [12] (fun i E=>∃j:Nat,j<=p.length/\i=iV j/\IsC E t (y64.row (bK f.c (p.take j)++U)) 2/\Frm (fun k=>k=t) w5 E) (fun i _=>p.length -(intOf i).toNat)
     case atStart=>exact⟨0,by omega,rfl,by simpa [bK] using xm,Frm.refl _ _⟩
     case round=>
      obtain⟨j,hj,rfl,D,R⟩:=hrel;obtain⟨E,rfl⟩:∃E,E=wr:=⟨wr,rfl⟩;by_cases z:j<p.length
      ·have VV:=Ud.out.kept (w':=E) R.size (fun b N G l=>R.block b l (fun e=>by subst e;omega))
       obtain⟨_,_,he,hs⟩:=VV.shape;simp only[Value.slice.injEq,true_and]at he;obtain⟨rfl,rfl⟩:=he;obtain⟨pb,po,rfl,_,_,_,I⟩:=hs (by omega);have x0:=(I j z).1;have Cm:p.getD j 0∈p:=by rw[gD,gE z];exact List.getElem_mem z
       have uj:=Uo.out _ Cm;have Z:=aA (xS f.c p j z);obtain⟨s,EA⟩:∃s:Nat,p.getD j 0=(s:Int):=⟨(p.getD j 0).toNat,by omega⟩;rw[EA]at x0 uj Z;simp only[Int.toNat_natCast]at Z;have ap:(bK f.c (p.take j)).length=f.c.length:=jC _ _;have mq:s<f.c.length:=by omega
       have yb:=eD D (i:=s) (by rw[ap];exact mq);have zb:=D.frozen s;have B8:=aA (iH D (i:=s) (by rw[ap];exact mq) 1);rw[<-Z.out]at B8;have DC:(s:Int) <(f.c.length:Int):=by omega
       have eX:(j:Int) <(p.length:Int):=by omega
       generalize (bK f.c (p.take j)).getD s 0=cv at *;clear VV hs I Cm EA ap Z xm D;go_wp2;go_roundw
       case rel=>exact⟨j+1,by omega,by go_num,B8.out,R.trans (Frm.set (S:=fun k=>k=t) _ (p:=aD t s) rfl _)⟩
       case measure=>simp[intOf];omega
      ·obtain rfl:j=p.length:=by omega
       rw[List.take_of_length_le (nR _)]at D;have te:Bl w E:=Aw.trans (R.below Aw.size fun g e=>by rw[e];exact bu);have O:=h.below te;obtain⟨_,_,_,_,v4,v5,v6⟩:=O.cells;have z4:=O.box.frozen 4;have z5:=O.box.frozen 5;have z6:=O.box.frozen 6;have HG:=aA (CmP.good h m K.out te D bu tj da a0 dc c0 (.slice a1 rs.length c1));have Sm:=m.gn;clear D O R xm Ud HZ Q6 h te;go_wp2;refine bodyPost_ret (v:=.tuple #[.slice da (dZ f) dc,.slice a0 p.length c0,.slice a1 rs.length c1,iV 0]) (by simp[results,Tryz.results32,go_sem]) rfl ?_;exact HG.out
  ·have K:Hid (cQ f=(f,pc,0,.empty)):=by
    have:=J.out;rw[if_neg (by omega),if_pos X]at this;exact this
   clear W J;go_wp2;refine bodyPost_ret (v:=.tuple #[.slice none 0 0,.slice none 0 0,.slice none 0 0,iV pc]) (by simp[results,Tryz.results32,go_sem]) rfl ?_;exact jm.out _ _ K.out H
def yK(o:TO):List Value:=[iV o.1,iV o.2.1,.string o.2.2.1,.string o.2.2.2]
def yO:Ely TO where
 cell:=yK
 n:=4
 z:=(0,0,.empty,.empty)
 zv:=.agg #[iV 0,iV 0,.string .empty,.string .empty]
 t:=33
 s:=23
 by':=48
 hn:=fun _=>rfl
 hp:=by omega
 one:=fun a v hv=>by simp only[yK,List.mem_cons,List.not_mem_nil,or_false]at hv;rcases hv with rfl | rfl | rfl | rfl<;>rfl
 hz:=by kernel_rfl
 us:=Tryz.underlying23
 hb:=by omega
 info:=pJ (by kernel_rfl)
def aDK(a:An):List Value:=[iV a.1,iV a.2.1,.string a.2.2]
def yA:Ely An where
 cell:=aDK
 n:=3
 z:=(0,0,.empty)
 zv:=.agg #[iV 0,iV 0,.string .empty]
 t:=31
 s:=26
 by':=32
 hn:=fun _=>rfl
 hp:=by omega
 one:=fun a v hv=>by simp only[aDK,List.mem_cons,List.not_mem_nil,or_false]at hv;rcases hv with rfl | rfl | rfl<;>rfl
 hz:=by kernel_rfl
 us:=Tryz.underlying26
 hb:=by omega
 info:=pJ (by kernel_rfl)
theorem Ely.make(Y:Ely α)(n:Nat)(hn:n<=1048576)(w:World):(Instr.makeSlice Y.s (iV (n:Int)) (iV (n:Int))).run Tryz.prog w=.ok (sL w.heap.size 0 n n) (w.alloc (.cells (Y.row (List.replicate n Y.z)) Y.t)):=by
 obtain⟨i,g,h,f,j⟩:=Y.info;have k:=Y.hb;have d:(i.bytes:Int)*(n:Int)<=281474976710656:=by
  have a:i.bytes*n<=64*1048576:=Nat.mul_le_mul (by omega) hn;have b:((i.bytes*n:Nat):Int)<=((64*1048576:Nat):Int):=by omega
  rw[Int.natCast_mul]at b;omega
 have c:=run_make (P:=Tryz.prog) w Y.s Y.t i _ Y.us g j .i64 .i64 n n (by omega) (Int.le_refl _) d (by omega);simp only[Int.toNat_natCast,h]at c;have e:madeCells Y.zv.cells (n*Y.n)=Y.row (List.replicate n Y.z):=by
  have a:=Y.c9 n;have b:Y.zv.cells.size=Y.n:=by rw[Y.hz];simp[Y.hn]
  unfold Builtin.zeroCells at a;rw[b]at a;unfold madeCells;rw[b];exact a
 rw[e]at c;exact c
theorem Ely.setAt(Y:Ely α){g:Nat}{l:List α}(h:IsC w g (Y.row l) Y.t){i:Nat}(c:i<l.length)(a:α):IsC (w.setCells g (i*Y.n) (Y.cell a)) g (Y.row (l.set i a)) Y.t:=by
 have d:i*Y.n+(Y.cell a).length<=(l.flatMap Y.cell).length:=by
  rw[Y.hn,Y.len];have:(i+1)*Y.n<=l.length*Y.n:=Nat.mul_le_mul_right _ c;rw[Nat.succ_mul]at this;exact this
 have:=IsC.a8 (Y.cell a) (i*Y.n) h d
 have e:Go.Proofs.YtmpagpeenjddgaaGreat.spl (l.flatMap Y.cell) (i*Y.n) (Y.cell a)=(l.set i a).flatMap Y.cell:=by
  have b:=Y.spl l [a] i;simp only[List.flatMap_cons,List.flatMap_nil,List.append_nil]at b;rw[b];congr 1;unfold Go.Proofs.YtmpagpeenjddgaaGreat.spl;rw[List.set_eq_take_append_cons_drop,if_pos c];simp
 rw[e]at this;exact this
theorem aKY{l:List TO}(h:yO.Sl w u l)(m:0<l.length):∃g o c,u=sL g o l.length c/\g<w.heap.size/\∀(w':World) (i:Nat),(w'.heap[g]?=w.heap[g]?)->i<l.length->w'.cell? (aD g (o+i*4))=some (iV (l.getD i yO.z).1)/\w'.cell? (aD g (o+i*4+1))=some (iV (l.getD i yO.z).2.1)/\w'.cell? (aD g (o+i*4+2))=some (.string (l.getD i yO.z).2.2.1)/\w'.cell? (aD g (o+i*4+3))=some (.string (l.getD i yO.z).2.2.2):=by
 obtain⟨g,o,c,e,j,a⟩:=h.at m;refine⟨g,o,c,e,j,fun w' i f b=>?_⟩;have d:∀k,w'.cell? (aD g k)=w.cell? (aD g k):=fun k=>by simp[World.cell?,f]
 refine⟨?_,?_,?_,?_⟩
 ·rw[d];exact a i 0 b (by decide)
 ·rw[d];exact a i 1 b (by decide)
 ·rw[d];exact a i 2 b (by decide)
 ·rw[d];exact a i 3 b (by decide)
def z7:Array Value:=#[iV 0,.slice none 0 0,.slice none 0 0,iV 0,iV 0,.slice none 0 0,.slice none 0 0]
theorem aNQ(W:World):(Instr.build 58 #[]).run Tryz.prog W=.ok (.agg z7) W:=by kernel_rfl
theorem buildA01'(W:World)(c v:Int):(Instr.build 31 #[(0,iV c),(1,iV v)]).run Tryz.prog W=.ok (.agg #[iV c,iV v,.string .empty]) W:=by kernel_rfl
theorem pS{v5 v6:Value}(h:IsC w B x 58)(hx:x.size=7)(e:a.getD 4 undef=pT B 0)(b:a.getD 5 undef=v5)(c:a.getD 6 undef=v6):(results Tryz.f18 a).run Tryz.prog w=.ok (.tuple #[.agg x,v5,v6]) w:=by
 have l:=kE h (by kernel_rfl) (by rw[hx];kernel_rfl);simp only[Array.getD_eq_getD_getElem?]at e b c;simp[results,Tryz.f18,e,b,c,asAddr,l]
theorem Ely.Own.dq{Y:Ely α}{S:Nat->Prop}{l:List α}(h:Y.Own base w u l)(k:Frm S w w')(i:∀g,base<=g->g<w.heap.size->¬S g):Y.Own base w' u l:=by
 obtain⟨a,b,e,f,d⟩:=h;exact⟨a,b,e,f.ae k (fun g c=>i g (d g c) (f.arr g c).lt),d⟩
structure RuP(w:World)(n:Int)(ops:List TO)(e:Ending)(w':World):Prop where
 dev:inB n 8 512=false->e=.returned (.tuple #[.agg z7,.slice none 0 0,iV 1])
 lim:inB n 8 512=true->2000<ops.length->e=.returned (.tuple #[.agg z7,.slice none 0 0,iV 4])
 ok:inB n 8 512=true->ops.length<=2000->∃A u,e=.returned (.tuple #[.agg (aL A (gX (aJ n.toNat) ops)),u,iV 0])/\SpV w' A (gX (aJ n.toNat) ops)/\(∃a k c,A.tv=.slice a k c)/\yA.Own w.heap.size w' u (fJ (aJ n.toNat) ops)
 bk:Bl w w'
structure RuI(w:World)(f0:fZ)(ops:List TO)(B4 B7 base k:Nat)(u:Value)(wr:World):Prop where
 b4:IsC wr B4 z7 58
 sp:∃A,Sp wr B7 A (gX f0 (ops.take k))/\∃a k c,A.tv=.slice a k c
 own:yA.Own base wr u (fJ f0 (ops.take k))
 bk:Bl w wr
 sz:base<=wr.heap.size
theorem RuI.next{W5 w7:World}{f0 g:fZ}{ops:List TO}{B4 B7:Nat}(b:IsC W5 B4 z7 58)(f:Sp W5 B7 A g)(d:gX f0 (ops.take k)=g)(r:∃a k c,A.tv=.slice a k c)(i:Bl w W5)(j:base<=W5.heap.size)(p:yA.Own base w7 u (fJ f0 (ops.take k)))(hF:Frm (fun k=>base<=k/\∃cs,IsC W5 k cs yA.t) W5 w7)(s:w.heap.size<=base):RuI w f0 ops B4 B7 base k u w7:=by
 have h:∀{g cs t},IsC W5 g cs t->t≠31->¬(base<=g/\∃cs,IsC W5 g cs yA.t):=fun {g cs t} m n o=>by
  obtain⟨l,b⟩:=o.2;exact m.ab b n rfl
 refine⟨b.ae hF (h b (by decide)),⟨A,?_,r⟩,p,i.trans (hF.below i.size fun g q=>by omega),lT j hF.size⟩;rw[d];exact⟨f.box.ae hF (h f.box (by decide)),f.v.ae hF (fun g cs t ht d=>h d (by rcases ht with e | e | e | e<;>rw[e]<;>decide))⟩
theorem aFY(n:Int)(a:List TO)(v:Value)(w:World)(hv:yO.Sl w v a)(hl:a.length<=1048576):Calls Tryz.prog 18 #[iV n,v] w (RuP w n a):=by
 have EB:=aNQ;have hba:=buildA01';have X:z7.size=7:=rfl;have I8:z7.all (·.oneCell')=true:=by simp[z7,Value.oneCell']
 obtain⟨va,vc,Cr⟩:=hv.len;obtain⟨B4,du⟩:=eZ (w.heap.size);obtain⟨w1,bx⟩:=eZ (w.alloc (.cells #[iV 0,.slice none 0 0,.slice none 0 0,iV 0,iV 0,.slice none 0 0,.slice none 0 0] 58));have M:=bAl bx;have O:=iNw bx du;have HV:=aA (aI hv Cr);subst Cr;clear hv;go_enter Tryz.func18,Tryz.ntmps18;go_wp2_with fail;refine(iS n w1).mono ?_;rintro e w1' ⟨rfl,rfl⟩;cases R:inB n 8 512 with
 | false=>
  have r9:=aA R;clear R;go_upto_region 2 with fail
  refine wp_region_list ?_;refine wpList_plain rfl (fun K2 b=>?_);go_simp;refine b _ _ ?_;clear b K2;try simp only[Act.put,sB,sZ,sS]
  refine wpList_plain rfl (fun K2 b=>?_);refine aM _ _ _ rfl B4 O rfl rfl X (by kernel_rfl) I8 fun f ja s=>?_;refine b _ _ ?_;clear b K2;have HF:Hid (RuP w n a (.returned (.tuple #[.agg z7,.slice none 0 0,iV 1])) f):=⟨fun _=>rfl,fun q=>(by rw[r9.out]at q;cases q),fun q=>(by rw[r9.out]at q;cases q),M.trans (s.below M.size fun g q=>by rw[q];omega)⟩;clear s;try simp only[Act.put,sB,sZ,sS]
  refine wpList_plain rfl (fun K2 b=>?_);go_simp;refine b _ _ ?_;clear b K2;refine wpList_plain rfl (fun K2 b=>?_);go_simp;refine b _ _ ?_;clear b K2;refine wpList_nil ?_;go_wp2;refine bodyPost_ret (v:=.tuple #[.agg z7,.slice none 0 0,iV 1]) (pS ja X rfl rfl rfl) rfl ?_;exact HF.out
 | true=>
  have r9:=aA R;by_cases h2:2000<a.length
  ·have Pi:(2000:Int) <(a.length:Int):=by omega
   clear R;go_upto_region 4 with fail
   refine wp_region_list ?_;refine wpList_plain rfl (fun K2 b=>?_);go_simp;refine b _ _ ?_;clear b K2;try simp only[Act.put,sB,sZ,sS]
   refine wpList_plain rfl (fun K2 b=>?_);refine aM _ _ _ rfl B4 O rfl rfl X (by kernel_rfl) I8 fun f ja s=>?_;refine b _ _ ?_;clear b K2;have HF:Hid (RuP w n a (.returned (.tuple #[.agg z7,.slice none 0 0,iV 4])) f):=⟨fun q=>(by rw[r9.out]at q;cases q),fun _ _=>rfl,fun _ q=>absurd q (by omega),M.trans (s.below M.size fun g q=>by rw[q];omega)⟩;clear s;try simp only[Act.put,sB,sZ,sS]
   refine wpList_plain rfl (fun K2 b=>?_);go_simp;refine b _ _ ?_;clear b K2;refine wpList_plain rfl (fun K2 b=>?_);go_simp;refine b _ _ ?_;clear b K2;refine wpList_nil ?_;go_wp2;refine bodyPost_ret (v:=.tuple #[.agg z7,.slice none 0 0,iV 4]) (pS ja X rfl rfl rfl) rfl ?_;exact HF.out
  ·have Pi:¬(2000:Int) <(a.length:Int):=by omega
   have Bq:8<=n/\n<=512:=by unfold inB at R;simpa using R
   obtain⟨N,hN⟩:∃N:Nat,n=(N:Int):=⟨n.toNat,by omega⟩;have Qq:Hid (n.toNat=N):=(show n.toNat=N by omega);subst hN;clear R;have RT:=Inv.fresh (n:=N) (by omega) (by omega);have KE:=pC N;go_upto_region 5 with fail
   refine wp_region_list ?_;refine wpList_plain rfl (fun K2 b=>?_);go_simp;refine b _ _ ?_;clear b K2;refine wpList_plain rfl (fun K2 b=>?_);go_simp;refine(zR N (by omega) (by omega) w1).mono ?_;rintro e w2 ⟨⟨A0,rfl,Rz,O0⟩,be⟩;refine b _ _ ?_;clear b K2;have FN:=dT Rz O0;have Ds:=dD A0 (aJ N);obtain⟨X0,P2⟩:=eZ (aL A0 (aJ N));rw[P2]at FN Ds;rw[P2];obtain⟨w3,di⟩:=eZ (w2.alloc (.cells #[iV 0,.slice none 0 0,.slice none 0 0,iV 0,iV 0,.slice none 0 0,.slice none 0 0] 58));obtain⟨d,GX⟩:=eZ (w2.heap.size);have i7:=iNw di GX;have bg:=bAl di;refine wpList_plain rfl (fun K2 b=>?_);go_simp;refine b _ _ ?_;clear b K2;refine wpList_plain rfl (fun K2 b=>?_);refine aM _ _ _ rfl d i7 rfl rfl (Ds.trans X.symm) (by rw[Ds];kernel_rfl) FN fun w4 j7 jF=>?_;have Ax:Bl w2 w4:=bg.trans (jF.below bg.size fun k e=>by omega);have KS:=be.trans (Ax.mono be.size);have te:=M.trans (KS.mono M.size);have i4:IsC w4 B4 z7 58:=O.of (KS.block _ O.lt);have Da:Sp w4 d A0 (aJ N):=⟨by rw[P2];exact j7,Rz.below Ax⟩;have RG:w.heap.size<=d/\B4<d:=by have:=M.size;have:=be.size;have:=O.lt;omega
   refine b _ _ ?_;clear b K2 j7 jF i7 di bx bg Ax O P2 FN Ds;refine wpList_nil ?_;try simp only[Act.put,sB,sZ,sS]
   obtain⟨base,IS⟩:=eZ (w4.heap.size);obtain⟨w5,tu⟩:=eZ (w4.alloc (.cells #[] 31));have D:=bAl tu;have ly:Hid (RuI w (aJ N) a B4 d base 0 (sL base 0 0 0) w5):=⟨i4.of (D.block _ i4.lt),⟨A0,Da.below D,O0⟩,by rw[<-tu];exact Ely.Own.lit (Y:=yA) base w4 (Nat.le_of_eq IS.symm) base IS.symm,te.trans (D.mono te.size),by have:=D.size;omega⟩;have nm:w.heap.size<=base/\d<base:=by have:=te.size;have:=Da.box.lt;omega
   clear Da i4 Rz D KS be;go_wp2;go_loopw [8,9] (fun u i wr=>∃k:Nat,k<=a.length/\i=iV k/\RuI w (aJ N) a B4 d base k u wr) (fun _ i _=>a.length -(intOf i).toNat)
   case atStart=>exact⟨0,by omega,rfl,ly.out⟩
   case round=>
    clear ly tu;obtain⟨k,hk,rfl,m⟩:=hrel;obtain⟨A,lu,kh⟩:=m.sp;by_cases ai:k<a.length
    ·obtain⟨g,o,cc,Cr,yg,aa⟩:=aKY HV.out.1 (by omega)
     simp only[Value.slice.injEq,true_and]at Cr;obtain⟨rfl,rfl⟩:=Cr;have jl:(k:Int) <(a.length:Int):=by omega
     have yi:=kZ RT KE (a.take k);obtain⟨s1,s2⟩:=lN (aJ N) (a.take k) (a.getD k yO.z);rw[<-cO a k yO.z ai]at s1 s2;have IN:(fJ (aJ N) (a.take k)).length<1000000:=by rw[gQ,List.length_take];omega
     have J:=aA s1;have H:=aA s2;obtain⟨⟨kind,tree,key,val⟩,Hd⟩:∃x,a.getD k yO.z=x:=⟨_,rfl⟩;rw[Hd]at J H;have ud:Hid (∀V:World,Bl w V->V.cell? (aD g (o+k*4))=some (iV kind)/\V.cell? (aD g (o+k*4+1))=some (iV tree)/\V.cell? (aD g (o+k*4+2))=some (.string key)/\V.cell? (aD g (o+k*4+3))=some (.string val)):=fun V hb=>by
      have:=aa V k (hb.block g yg) ai
      rw[Hd]at this;exact this
     obtain⟨c,CD⟩:=eZ (wr.heap.size);obtain⟨f,MX⟩:=eZ (wr.alloc (.cells #[iV 0,iV 0,.string {data:=#[]}] 31));have xx:=bAl MX;have ia:=iNw MX CD;have Uw:=m.b4.of (xx.block _ m.b4.lt);have Na:=lu.below xx;have VT:=m.own;have za:Bl w f:=m.bk.trans (xx.mono m.bk.size);have U3:base<=c:=by have:=m.sz;omega
     obtain⟨x0,x1,x2,x3⟩:=ud.out f za;have KZ:base<=f.heap.size:=lT m.sz xx.size;have Mh:=aA Uw;have U:=aA Na;have Bx:=aA VT;have DU:=yi.inv;have Nf:=yi.ve;obtain⟨F,hF⟩:=eZ (gX (aJ N) (a.take k));rw[hF]at J H DU Nf U;have C:=aA U.out.box;clear aa yi s1 s2 m lu Uw Na VT hF Hd;obtain⟨lA,ON⟩:=eZ (fJ (aJ N) (a.take k));rw[ON]at H Bx IN;clear ON;by_cases h5:kind=5
     ·subst h5
      have HD:Hid (doM F 5 tree key val=cQ F):=by unfold doM;rw[if_pos rfl];rfl
      rw[HD.out]at J H;go_wp2_with fail;refine(xB DU f d A U.out kh).mono ?_;rintro e l ⟨⟨A',a0,S,c0,a1,T,O,rv,rfl,Ff,LW,qe,KA,Hq⟩,L⟩;have BO:c≠d:=by omega
      have G:=ia.ae L (fun e=>BO e);have Ux:=Mh.out.ae L (fun e=>by omega);have zc:Bl w l:=za.trans (L.below za.size fun g e=>by rw[e];exact RG.1);have Yd:base<=l.heap.size:=lT KZ L.size;have y0:l.cell? (aD c 0)=some (iV 0):=G.c rfl;have y1:l.cell? (aD c 1)=some (iV 0):=G.c rfl;have y2:l.cell? (aD c 2)=some (.string {data:=#[]}):=G.c rfl;have q0:=G.frozen 0;have q1:=G.frozen 1;have q2:=G.frozen 2;obtain⟨p,vg⟩:=eZ ((cQ F).2.1);have JB:Hid ((cQ F).2=(p,(S:Int)+(T:Int),{data:=#[]})):=by
       rw[<-vg,Ff];show(cQ F).2=((cQ F).2.1,(cQ F).2.2.1,{data:=#[]})
       have:(cQ F).2.2.2=({data:=#[]}:ByteArray):=by unfold cQ;split;rfl;split<;>rfl
       rw[<-this]
      rw[vg];have r:=fI l c (iV p) (iV ((S:Int)+(T:Int))) (.string {data:=#[]});obtain⟨j,C8⟩:=eZ (((l.setCell (aD c 0) (iV p)).setCell (aD c 1) (iV ((S:Int)+(T:Int)))).setCell (aD c 2) (.string {data:=#[]}));have y:=((G.set 0 (iV p)).set 1 (iV ((S:Int)+(T:Int)))).set 2 (.string {data:=#[]});rw[C8]at r y;have u0:j.cell? (aD c 0)=some (iV p):=y.c rfl;have u1:j.cell? (aD c 1)=some (iV ((S:Int)+(T:Int))):=y.c rfl;have u2:j.cell? (aD c 2)=some (.string {data:=#[]}):=y.c rfl;have M0:=Ux.ae r (fun e=>by omega);have Eo:Sp j d A' (cQ F).1:=⟨KA.box.ae r (fun e=>BO e.symm),KA.v.ae r (fun g cs t ht hg e=>by
       subst e;refine hg.ab G ?_ rfl;rcases ht with e | e | e | e<;>rw[e]<;>decide)⟩
      have F5:Frm (fun k=>k=d\/k=c) wr j:=((Frm.aa xx).trans (L.wide fun _ _ q=>.inl q)).trans (r.wide fun _ _ q=>.inr q);have Ei:=Bx.out.dq F5 (fun g lw yf e=>by omega);have D:Bl w j:=zc.trans (r.below zc.size fun g e=>by rw[e];omega);have E1:base<=j.heap.size:=lT KZ (lT L.size r.size);have B:=aA (aI M0 (aI Eo (aI Hq D)));have Fl:Hid (gX (aJ N) (a.take (k+1))=(cQ F).1):=J.out;have By:Hid (fJ (aJ N) (a.take (k+1))=lA++[(p,(S:Int)+(T:Int),{data:=#[]})]):=by have:=H.out;rw[JB.out]at this;exact this
      clear M0 Eo F5 r y Ux KA G L J H JB HD Mh U C Ff;go_wp2_with (first | (at_builtin;refine yA.av rfl _ _ rfl Ei rfl (p,(S:Int)+(T:Int),{data:=#[]}) rfl rfl IN E1 ?_;intro v' w7 ax bp k5;have vu:=aA (RuI.next B.out.1 B.out.2.1 Fl.out B.out.2.2.1 B.out.2.2.2 E1 (by rw[By.out];exact ax) k5 nm.1);clear ax bp k5 Ei) | go_in);go_roundw
      case rel=>exact⟨k+1,by omega,by go_num,vu.out⟩
      case measure=>simp[intOf];omega
     ·have HD:Hid (doM F kind tree key val=opM F kind tree key val):=by unfold doM;rw[if_neg h5];rfl
      rw[HD.out]at J H;have fh:=dT U.out.v kh;have z:=dD A F;have JL:=aA fun(K:World) (hz:Bl f K)=>aJK DU Nf kind tree key val h5 K A (U.out.v.below hz) kh;obtain⟨XS,xj⟩:=eZ (aL A F);rw[xj]at fh z JL C;have al:IsC f.drew d XS 58/\f.drew.cell? (aD g (o+k*4))=some (iV kind)/\f.drew.cell? (aD g (o+k*4+1))=some (iV tree)/\f.drew.cell? (aD g (o+k*4+2))=some (.string key)/\f.drew.cell? (aD g (o+k*4+3))=some (.string val):=⟨C.out.drew,x0,x1,x2,x3⟩;go_upto_region 14 with fail
      refine aBC (fun W=>IsC W d XS 58/\W.cell? (aD g (o+k*4))=some (iV kind)/\W.cell? (aD g (o+k*4+1))=some (iV tree)/\W.cell? (aD g (o+k*4+2))=some (.string key)/\W.cell? (aD g (o+k*4+3))=some (.string val)) 7 (by kernel_rfl) ?_;refine jR (i:=0) 52 (.agg XS) (by kernel_rfl) (by kernel_rfl) rfl (by kernel_rfl) (by kernel_rfl) (by kernel_rfl) (fun _ _ _ h=>h) rfl rfl al (fun w' E=>lM _ _ rfl d E.1 rfl (by kernel_rfl) (by rw[z];kernel_rfl)) ?_;simp only[Act.put,sB,sZ,sS];refine jR (i:=1) 53 (sL g o a.length vc) (by kernel_rfl) (by kernel_rfl) rfl (by kernel_rfl) (by kernel_rfl) (by kernel_rfl) (fun _ _ _ h=>h) rfl rfl al (fun w' E=>by obtain⟨_,m1,m2,m3,m4⟩:=E;go_simp;try rfl) ?_;simp only[Act.put,sB,sZ,sS];refine jR (i:=2) 54 (iV k) (by kernel_rfl) (by kernel_rfl) rfl (by kernel_rfl) (by kernel_rfl) (by kernel_rfl) (fun _ _ _ h=>h) rfl rfl al (fun w' E=>by obtain⟨_,m1,m2,m3,m4⟩:=E;go_simp;try rfl) ?_;simp only[Act.put,sB,sZ,sS];refine jR (i:=3) 55 (pT g (o+k*4)) (by kernel_rfl) (by kernel_rfl) rfl (by kernel_rfl) (by kernel_rfl) (by kernel_rfl) (fun _ _ _ h=>h) rfl rfl al (fun w' E=>by obtain⟨_,m1,m2,m3,m4⟩:=E;go_simp;try rfl) ?_;simp only[Act.put,sB,sZ,sS];refine jR (i:=4) 56 (.agg #[iV kind,iV tree,.string key,.string val]) (by kernel_rfl) (by kernel_rfl) rfl (by kernel_rfl) (by kernel_rfl) (by kernel_rfl) (fun _ _ _ h=>h) rfl rfl al (fun w' E=>by obtain⟨_,m1,m2,m3,m4⟩:=E;go_simp;try rfl) ?_;simp only[Act.put,sB,sZ,sS];refine kI (i:=5) (by kernel_rfl) rfl rfl (fun K2 b=>?_);go_simp;refine(JL.out f.drew (bQ _ _).drew).mono ?_;rintro e l ⟨⟨A',rfl,Jz,Hq⟩,EA⟩;have I:Bl f l:=(bQ f.heap.size f).drew.trans EA;have zc:=za.trans (I.mono za.size);have GY:=C.out.of (I.block _ C.out.lt);have He:IsC l d XS 58/\l.cell? (aD g (o+k*4))=some (iV kind)/\l.cell? (aD g (o+k*4+1))=some (iV tree)/\l.cell? (aD g (o+k*4+2))=some (.string key)/\l.cell? (aD g (o+k*4+3))=some (.string val):=⟨GY,ud.out l zc⟩;have Il:=dT Jz Hq;have Fa:=dD A' (opM F kind tree key val).1;have L2:=aA Jz;obtain⟨X',P0⟩:=eZ (aL A' (opM F kind tree key val).1);rw[P0]at Il Fa;rw[P0];obtain⟨⟨p,vl,st⟩,P⟩:∃x,(opM F kind tree key val).2=x:=⟨_,rfl⟩;have JB:=aA P;rw[P];simp only[bZ];refine b _ _ (fun _=>He) ?_;clear b K2 Jz;refine kI (i:=6) (by kernel_rfl) rfl rfl (fun K2 b=>?_);go_simp;refine b _ _ (fun _=>He) ?_;clear b K2;refine uK (i:=7) 58 (.agg X') (by omega) rfl (by kernel_rfl) (by kernel_rfl) (by kernel_rfl) (fun _ _ _ h=>h) rfl rfl (fun w'=>by go_simp;try rfl) ?_;simp only[Act.put,sB,sZ,sS];refine uK (i:=8) 59 (.agg #[iV p,iV vl,.string st]) (by omega) rfl (by kernel_rfl) (by kernel_rfl) (by kernel_rfl) (fun _ _ _ h=>h) rfl rfl (fun w'=>by go_simp;try rfl) ?_;simp only[Act.put,sB,sZ,sS];refine kI (i:=9) (by kernel_rfl) rfl rfl (fun K2 b=>?_);refine aM _ _ _ rfl d GY rfl rfl (Fa.trans z.symm) (by rw[Fa];kernel_rfl) Il fun wc jc Q=>?_;refine b _ _ (fun q=>absurd q (by omega)) ?_;clear b K2;have BO:c≠d:=by omega
      have ic:=(ia.of (I.block _ ia.lt)).ae Q (fun e=>BO e);refine kI (i:=10) (by kernel_rfl) rfl rfl (fun K2 b=>?_);refine aM (vs:=#[iV p,iV vl,.string st]) _ _ _ rfl c ic rfl rfl rfl (by kernel_rfl) (by simp[Value.oneCell']) fun j y r=>?_;refine b _ _ (fun q=>absurd q (by omega)) ?_;clear b K2;refine aBA (by kernel_rfl) ?_ _;have u0:j.cell? (aD c 0)=some (iV p):=y.c rfl;have u1:j.cell? (aD c 1)=some (iV vl):=y.c rfl;have u2:j.cell? (aD c 2)=some (.string st):=y.c rfl;have Z:Frm (fun k=>k=d\/k=c) l j:=(Q.wide fun _ _ q=>.inl q).trans (r.wide fun _ _ q=>.inr q);have M0:=(Mh.out.of (I.block _ Mh.out.lt)).ae Z (fun e=>by omega);have Eo:Sp j d A' (opM F kind tree key val).1:=⟨by rw[P0];exact jc.ae r (fun e=>BO e.symm),L2.out.ae Z (fun g cs t ht hg e=>by
       rcases e with e | e
       ·subst e
        refine hg.ab GY ?_ rfl;rcases ht with e | e | e | e<;>rw[e]<;>decide
       ·subst e
        refine hg.ab (ia.of (I.block _ ia.lt)) ?_ rfl;rcases ht with e | e | e | e<;>rw[e]<;>decide)⟩
      have F5:Frm (fun k=>k=d\/k=c) wr j:=((Frm.aa xx).trans (Frm.aa I)).trans Z;have Ei:=Bx.out.dq F5 (fun g lw yf e=>by omega);have D:Bl w j:=zc.trans (Z.below zc.size fun g e=>by omega);have E1:base<=j.heap.size:=lT KZ (lT I.size Z.size);have B:=aA (aI M0 (aI Eo (aI Hq D)));have Fl:Hid (gX (aJ N) (a.take (k+1))=(opM F kind tree key val).1):=J.out;have By:Hid (fJ (aJ N) (a.take (k+1))=lA++[(p,vl,st)]):=by have:=H.out;rw[JB.out]at this;exact this
      clear M0 Eo F5 r y jc Q Z GY He ic J H JB HD Mh U C L2 JL P P0 xj al EA I;go_wp2_with (first | (at_builtin;refine yA.av rfl _ _ rfl Ei rfl (p,vl,st) rfl rfl IN E1 ?_;intro v' w7 ax bp k5;have vu:=aA (RuI.next B.out.1 B.out.2.1 Fl.out B.out.2.2.1 B.out.2.2.2 E1 (by rw[By.out];exact ax) k5 nm.1);clear ax bp k5 Ei) | go_in);go_roundw
      case rel=>exact⟨k+1,by omega,by go_num,vu.out⟩
      case measure=>simp[intOf];omega
    ·obtain rfl:k=a.length:=by omega
     have jl:¬((a.length:Nat):Int) <((a.length:Nat):Int):=by omega
     have fh:=dT lu.v kh;have z:=dD A (gX (aJ N) (a.take a.length));have C:=aA lu.box;have PL:=aA m.b4;have Ah:Hid (∀K:World,Frm (fun k=>k=B4) wr K->RuP w (N:Int) a (.returned (.tuple #[.agg (aL A (gX (aJ N) (a.take a.length))),u8,iV 0])) K):=fun K hF=>by
      refine⟨fun q=>(by rw[r9.out]at q;cases q),fun _ q=>absurd q h2,fun _ _=>?_,m.bk.trans (hF.below m.bk.size fun g e=>by rw[e];omega)⟩;rw[Qq.out];have e:a.take a.length=a:=List.take_of_length_le (nR _);refine⟨A,u8,by rw[e],?_,kh,?_⟩
      ·have:=lu.v.ae hF (fun g cs t ht hg e=>by
        subst e;refine hg.ab m.b4 ?_ rfl;rcases ht with e | e | e | e<;>rw[e]<;>decide)
       rw[e]at this;exact this
      ·have:=m.own.dq hF (fun g h1 _ e=>by omega)
       rw[e]at this;exact this.base nm.1
     generalize aL A (gX (aJ N) (a.take a.length))=XS at fh z C Ah;clear m lu;go_upto_region 16 with fail
     refine wp_region_list ?_;refine wpList_plain rfl (fun K2 b=>?_);refine cP _ rfl d C.out rfl z ?_;refine b _ _ ?_;clear b K2;try simp only[Act.put,sB,sZ,sS]
     refine wpList_plain rfl (fun K2 b=>?_);go_simp;refine b _ _ ?_;clear b K2;try simp only[Act.put,sB,sZ,sS]
     refine wpList_plain rfl (fun K2 b=>?_);refine aM _ _ _ rfl B4 PL.out rfl rfl (z.trans X.symm) (by rw[z];kernel_rfl) fh fun K jz jzF=>?_;refine b _ _ ?_;clear b K2;try simp only[Act.put,sB,sZ,sS]
     have HF:=aA (Ah.out K jzF);clear Ah jzF;refine wpList_plain rfl (fun K2 b=>?_);go_simp;refine b _ _ ?_;clear b K2;refine wpList_plain rfl (fun K2 b=>?_);go_simp;refine b _ _ ?_;clear b K2;refine wpList_nil ?_;go_wp2;refine bodyPost_ret (v:=.tuple #[.agg XS,u8,iV 0]) (pS jz z rfl rfl rfl) rfl ?_;exact HF.out
