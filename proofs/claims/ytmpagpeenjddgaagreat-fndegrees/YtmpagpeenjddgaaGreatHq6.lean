import Derived.Test.YtmpagpeenjddgaaGreatHq1
set_option maxHeartbeats 9999999
set_option maxRecDepth 99999
set_option linter.all false
namespace Go.Proofs.YtmpagpeenjddgaaGreat
open Go.RowKit Go.Shelf Fo
attribute [local go_sem] Oper.semAt_some
variable {w w' : World} {ρ : Nat -> Nat} {P : Nat} {A : Adr} {f : fZ} {J : List aS}
theorem IsC.own{g:Nat}{cs:Array Value}{t:TypeId}{row:Option Nat}(h:IsC w g cs t)(c:w.grownBy w' row)(hr:∀r,row=some r->∃o:Obj,w.heap[r]?=some o/\o.isCells=false):IsC w' g cs t:=by
 refine h.of (c.block g h.lt fun e=>?_);obtain⟨o,a,b⟩:=hr g e.symm;rw[show w.heap[g]?=_ from h]at a;cases a;cases b
theorem aN.own{q:Nat}{d:Nd}{a:Option Nat}{junk:List E3}{row:Option Nat}(h:aN w q d a junk)(b:w.grownBy w' row)(hr:∀r,row=Option.some r->∃o:Obj,w.heap[r]?=Option.some o/\o.isCells=false):aN w' q d a junk:=
 ⟨h.box.own b hr,fun g e=>⟨(h.arr g e).1.own b hr,(h.arr g e).2⟩,h.nil,h.small⟩
theorem St.own{row:Option Nat}(h:St w ρ P A f J)(l:w.grownBy w' row)(hr:∀r,row=some r->r≠A.m/\∃o:Obj,w.heap[r]?=some o/\o.isCells=false):St w' ρ P A f J:=by
 obtain⟨B,D,C,c,n⟩:=h;have m:∀r,row=some r->∃o:Obj,w.heap[r]?=some o/\o.isCells=false:=fun r e=>(hr r e).2;refine⟨B,D,C,⟨fun k z=>lL (c.own k z) l.size,c.hP.own l m,c.rP,c.hr.own l m,c.rr,c.hm.of (l.block _ c.hm.lt fun e=>(hr _ e.symm).1 rfl),c.rm,c.hc.own l m,c.rc,c.hd.own l m,c.rd,fun b d x=>?_,c.no,c.rs,c.ds⟩,fun p=>⟨fun g e=>⟨((n p).arr g e).1.own l m,((n p).arr g e).2⟩,(n p).nil,(n p).small,(n p).len,fun i y=>?_⟩⟩
 ·obtain⟨q,u,v,s,j,E⟩:=c.nd b d x
  exact⟨q,u,v,s,j,E.own l m⟩
 ·obtain⟨u,v,s⟩:=(n p).row i y
  refine⟨u,v,?_⟩;cases e:(J.getD i jr0).2.2 with
  | none=>rw[e]at s;exact s
  | some d=>
   rw[e]at s;obtain⟨q,a,t,F,G,H,I⟩:=s;exact⟨q,a,t,F,G,H,I.own l m⟩
theorem Mv.own{X:Nat->Prop}{w0:World}{ρ0:Nat->Nat}{row:Option Nat}(h:Mv X w0 ρ0 w ρ)(a:w.grownBy w' row)(hr:∀r,row=some r->w0.heap.size<=r):Mv X w0 ρ0 w' ρ:=
 ⟨⟨a.os.trans h.ae.os,a.tape.trans h.ae.tape,a.output.trans h.ae.output,lT h.ae.size a.size,fun k b c=>(a.block k (lL b h.ae.size) fun e=>by have:=hr k e.symm;omega).trans (h.ae.block k b c)⟩,h.bu⟩
def iE(f:fZ)(b:Nat)(ks:List Nat):fZ:={f with c:=iQ (f.c.set b (cu f b-1)) ks}
theorem zK(b:List Nat)(k:Nat):∀c:List Int,iQ c (b++[k])=(iQ c b).set k ((iQ c b).getD k 0+1):=by
 induction b with
 | nil=>intro c;rfl
 | cons a b ih=>intro c;exact ih _
theorem pQ(f:fZ)(b:Nat)(a:List Nat)(k:Nat):iE f b (a++[k])=setC (iE f b a) k (cu (iE f b a) k+1):=by
 unfold iE setC cu;simp only[zK]
theorem zZ(f:fZ)(b:Nat)(a:List Nat):(iE f b a).c.length=f.c.length:=by simp[iE,mW]
theorem aJV(f:fZ)(b:Nat):iE f b []=setC f b (cu f b-1):=rfl
theorem Sz.eo{K:Int}{f:fZ}(h:Sz K f){b:Nat}(c:1<=cu f b):∀ks:List Nat,Sz (K+ks.length) (iE f b ks):=by
 intro ks;have key:∀l:List Nat,Sz (K+l.reverse.length) (iE f b l.reverse):=fun l=>by
  induction l with
  | nil=>rw[List.reverse_nil,aJV];exact(h.setC b (by omega) (by have:=h.cb b;omega)).up (by simp)
  | cons a l ih=>
   rw[List.reverse_cons,pQ];have:=ih.cb a;refine(ih.up ?_).setC a (by omega) (by simp only[lP,List.length_cons,List.length_nil];omega);simp only[lP,List.length_cons,List.length_nil];omega
 simpa using key ks.reverse
theorem aFZ{f:fZ}{b:Nat}{d:Nd}(h1:cu f b≠1)(hd:f.n b=some d):letGo f b=iE f b (kids d):=by
 unfold letGo;rw[if_neg h1,hd];rfl
theorem aJN{K:Int}(F:Fence)(n:Nat)(hW:∀{f:FuncId} {args:Array Value} {w:World} {R:Ending->World->Prop} {m:Nat},Calls Tryz.prog f args w R->CallsIn F m Tryz.prog f args w R)(qu:∀k,F.fn k)(Z:F.round=none)(hn:5<=n)
  (w:World) (ρ:Nat->Nat) (P:Nat) (A:Adr) (f:fZ) (J:List aS) (b:Nat) (d:Nd) (h:St w ρ P A f J) (j:Sz K f) (hK:K<=900000) (lq:J.length<=800000) (hb:f.n b=some d) (dw:1<=cu f b) (oh:∀c∈kids d,c<f.c.length) (Bq:d.1=2->∀e∈d.2,0<=e.2.2):
  CallsIn F n Tryz.prog 117 #[pT P 0,iV b] w fun e w'=>e=.returned (.tuple #[])/\∃ρ' J',St w' ρ' P (if cu f b=1 then gU A b else A) (letGo f b) J'/\Mv (fun _=>False) w ρ w' ρ'/\JS 11 f J (letGo f b) J'/\Sz (K+10) (letGo f b):=by
 have qe:1<=n:=by omega
 have y:b<f.c.length:=j.lt b d hb;have DC:(b:Int) <(f.c.length:Int):=by omega
 have gh:d.2.length<=10:=j.ai b d hb;obtain⟨ja,jp,jj,E,hJ⟩:=id h;obtain⟨m3,m4,m5,m7⟩:=E.cells;have jy:=E.count y;have D7:=E.hP.lt;have ap:=E.hc.lt;refine callsIn_of_wp_marks Tryz.func117 rfl (qu _) ?_ Z;simp only[Tryz.ntmps117,List.size_toArray,List.length_cons,List.length_nil,Nat.reduceAdd,Nat.reduceSub,Array.replicate_succ,Array.replicate_zero,List.push_toArray,List.append_toArray,List.nil_append,List.cons_append];have fe:Bl w (w.alloc (.cells #[pT P 0] 61)):=(bQ _ w).alloc (nR _) _;have bw:=h.below fe;have jd:=Boxed.new w 61 (pT P 0);have d8:(w.alloc (.cells #[pT P 0] 61)).heap.size=w.heap.size+1:=by simp
 by_cases I:cu f b=1
 ·have hL:letGo f b=freeB f b:=by unfold letGo;rw[if_pos I]
  rw[if_pos I,hL];rw[I]at jy;gi_wp2_with fail;refine(hW (aMC _ ρ P A f J b bw j (by omega) y)).mono ?_;rintro e s ⟨rfl,ρ2,G,C⟩;gi_wp2;refine⟨.tuple #[],by simp[results,Tryz.f117,go_sem],rfl,ρ2,_,G,(Mv.aa fe).trans C (fun _ _ e=>e),(JS.save y).trans (JS.freeB Tch.saved) |>.up (by omega),?_⟩;exact((j.setC b (v:=0) (by omega) (by have:=j.cb b;omega)).noN b).up (by omega)
 ·rw[if_neg I,aFZ I hb]
  gi_wp2_with fail
  refine(hW (mD _ ρ P A f J b bw j y (by omega))).mono ?_;rintro e s ⟨rfl,ρ2,G,C,AY,-⟩;obtain⟨ja2,jp2,jj2,je,qn⟩:=id G;obtain⟨n3,n4,n5,n7⟩:=je.cells;have Ke:=je.count y;have K9:s.frozen? (aD A.c b)=false:=je.hc.frozen b;have gj:Boxed s w.heap.size 61 (pT P 0):=(C.ae.block _ jd.lt (fun e=>e.elim (fun e=>e (Nat.eq_zero_of_not_pos fun q=>absurd (E.own _ (by omega)) (Nat.lt_irrefl _))) (fun e=>e))).trans jd;have R7:=gj.cell;obtain⟨cx,Fx⟩:=G.setC (b:=b) y (cu f b-1);obtain⟨ja3,jp3,jj3,N,vd⟩:=id cx;have nn:=j.cb b;have yt:IntKind.i64.wrap (cu f b-1)=cu f b-1:=IntWalk.i64_in _ ⟨by omega,by omega⟩;obtain⟨q,hφ,yw,yu,L,hN⟩:=N.nd b d hb;have ig:=N.hm.lookup b (by have:=j.al;omega);rw[hφ]at ig;have o3:(s.setCell (aD A.c b) (iV (cu f b-1))).cell? (aD P 3)=some (.map (some A.m)):=N.cells.m3;have au:w.heap.size≠A.c:=by omega
  have lk:Boxed (s.setCell (aD A.c b) (iV (cu f b-1))) w.heap.size 61 (pT P 0):=(aU _ _ au).trans gj;have R8:=lk.cell;generalize C7:s.setCell (aD A.c b) (iV (cu f b-1))=i at *;simp only[fB,Option.map_some]at ig;gi_wp2_with (gi_at_call 38;refine(kU F (n-1) (qu _) Z _ _).mono ?_;rintro e w' ⟨rfl,rfl⟩);have Z9:w.heap.size+1<=s.heap.size:=by have:=C.ae.size;omega
  have hw3s:i.heap.size=s.heap.size:=by rw[<-C7];exact cR (g:=A.c) [_] s b
  have T9:ρ2 w.heap.size=0:=by rw[C.bu _ (by omega) (fun e=>e)];exact Nat.eq_zero_of_not_pos fun q=>absurd (E.own _ (by omega)) (Nat.lt_irrefl _)
  have hρn:ρ2 i.heap.size=0:=Nat.eq_zero_of_not_pos fun q=>absurd (N.own _ (by omega)) (Nat.lt_irrefl _);have Fs:Mv (fun _=>False) w ρ i ρ2:=((Mv.aa fe).trans C (fun _ _ e=>e)).trans Fx (fun _ _ e=>e);have RY:JS 1 f J (setC f b (cu f b-1)) (J++[(b,cu f b,f.n b)]):=(JS.save y).trans (JS.setC _ Tch.saved);have du:Bl i (i.alloc (.cells #[pT q 0] 93)):=(bQ _ i).alloc (nR _) _;have av:=cx.below du;have T:=hN.below du;have ll:Boxed (i.alloc (.cells #[pT q 0] 93)) w.heap.size 61 (pT P 0):=lk.alloc _;have De:IsC (i.alloc (.cells #[pT q 0] 93)) i.heap.size #[pT q 0] 93:=IsC.new _ _ _;have Bf:Mv (fun _=>False) w ρ (i.alloc (.cells #[pT q 0] 93)) ρ2:=Fs.trans (Mv.aa du) (fun _ _ e=>e);have Hm:(i.alloc (.cells #[pT q 0] 93)).heap.size=i.heap.size+1:=by simp
  have ZU:A.m<i.heap.size:=N.hm.lt;clear ig o3 R8 R7 K9 Ke n3 n4 n5 n7 je qn hN lk gj cx vd Fs du Fx C G AY;generalize Nh:i.alloc (.cells #[pT q 0] 93)=O at *;have Do:q<O.heap.size:=T.box.lt;refine jJ Z qe (gf:=63) (lb:=#[pT i.heap.size 0]) rfl (qu _) (enters_of Tryz.func63 (by kernel_rfl) rfl)
   (jT F (n-1) (qu _) Z (by omega) i.heap.size q d (A.α b) L gh Bq O De T) KpC.trans (KpC.put De.lt Do (fun g e=>(T.arr g e).1.lt)) (bQ _ _) rfl
   (fun a W=>(∃ρ1 o,St W ρ1 P A (iE f b a) o/\Mv (fun _=>False) O ρ2 W ρ1/\JS (1+a.length) f J (iE f b a) o)/\Boxed W w.heap.size 61 (pT P 0))
   ?_ ⟨⟨ρ2,_,av,Mv.refl _ _ _,RY⟩,ll⟩ ?_ ?_
  ·refine OwnFrom.and (fun a X Y row hs hg hr=>?_) ((boxed_own _ _ _).from _)
   obtain⟨ρ1,o,z,t,B⟩:=hs;exact⟨ρ1,o,z.own hg fun r e=>⟨by have:=(hr r e).1;omega,(hr r e).2⟩,t.own hg fun r e=>(hr r e).1,B⟩
  ·intro l a x W hi mj
   gi_wp2
   refine⟨trivial,?_⟩;clear hi;rintro W ⟨⟨ρ1,o,z,t,B⟩,H⟩;have hxm:x∈kids d:=mj.subset (by simp);have hxl:x<f.c.length:=oh x hxm;have tj:a.length+1<=10:=by have:=mj.length_le;have:=sR d;simp at *;omega
   have Wi:Sz (K+a.length) (iE f b a):=j.eo dw a;have V:x <(iE f b a).c.length:=by rw[zZ];exact hxl
   have mo:=H.cell;gi_wp2_with fail;refine⟨fun _=>by omega,(CallsIn.inRound l (hW (mD _ ρ1 P A (iE f b a) o x z Wi V (by have:=B.len;omega)))).mono ?_⟩;rintro e u ⟨rfl,ρ3,cy,o6,AY,AT⟩;obtain⟨ja5,jp5,jj5,Q,Fr⟩:=id cy;obtain⟨n3,n4,n5,n7⟩:=Q.cells;rw[zZ]at n4;have Yi:=Q.count V;have N7:u.frozen? (aD A.c x)=false:=Q.hc.frozen x;have Lg:∀k,k<O.heap.size->ρ1 k=ρ2 k:=fun k p=>t.bu k p fun e=>e;have Tj:ρ1 w.heap.size=0:=by rw[Lg _ (by omega)];exact T9
   have tg:Boxed u w.heap.size 61 (pT P 0):=(AT.block _ H.lt (by rw[Tj];omega)).trans H;have YX:=tg.cell;have QE:(x:Int) <(f.c.length:Int):=by omega
   have Yh:=Wi.cb x;have yt:IntKind.i64.wrap (cu (iE f b a) x+1)=cu (iE f b a) x+1:=IntWalk.i64_in _ ⟨by omega,by omega⟩;obtain⟨M,Vl⟩:=cy.setC (b:=x) V (cu (iE f b a) x+1);rw[<-pQ]at M;have U:JS (1+a.length+1+0) f J (iE f b (a++[x])) (o++[(x,cu (iE f b a) x,(iE f b a).n x)]):=by
    rw[pQ];exact(B.trans (JS.save V)).trans (JS.setC _ Tch.saved)
   have yi:KpC i.heap.size q (A.α b) W (u.setCell (aD A.c x) (iV (cu (iE f b a) x+1))):=by
    have IW:ρ1 A.c=4:=by obtain⟨_,_,_,hh,_⟩:=z;exact hh.rc
    have p:∀k,k<O.heap.size->ρ2 k≠1->ρ2 k≠6->ρ2 k≠4->(u.setCell (aD A.c x) (iV (cu (iE f b a) x+1))).heap[k]?=W.heap[k]?:=fun k p e1 e2 e3=>by
     rw[aU u _ (fun e=>e3 (by rw[<-Lg k p,e,IW])),AT.block k (lL p t.ae.size) (by rw[Lg k p];omega)]
    refine⟨lT AT.size (Nat.le_of_eq (cR (g:=A.c) [_] u x).symm),p _ De.lt (by omega) (by omega) (by omega),p q Do ?_ ?_ ?_,fun g e=>p g (T.arr g e).1.lt ?_ ?_ ?_⟩
    ·rw[yw];unfold cK;omega
    ·rw[yw];unfold cK;omega
    ·rw[yw];unfold cK;omega
    ·rw[yu g e];unfold cI;omega
    ·rw[yu g e];unfold cI;omega
    ·rw[yu g e];unfold cI;omega
   have ru:Boxed (u.setCell (aD A.c x) (iV (cu (iE f b a) x+1))) w.heap.size 61 (pT P 0):=(aU _ _ au).trans tg;have S:=(t.trans o6 (fun _ _ e=>e)).trans Vl (fun _ _ e=>e);have HF:=aA (aI M (aI U (aI yi (aI ru S))));clear M U yi ru S Vl z t B cy o6 Q Fr H tg;gi_wp2;obtain⟨M,U,yi,ru,S⟩:=HF.out;exact⟨(AY.trans (KeepsOthers.setCell _ _ _)).from _,yi,⟨ρ3,_,M,S,U.up (by simp only[lP,List.length_cons,List.length_nil];omega)⟩,ru⟩
  ·rintro D W hD ⟨⟨ρ1,o,z,t,B⟩,H⟩ hK
   gi_wp2
   have bh:W.grownBy (W.putObj D (.deferred none)) (some D):=grownBy_putObj' W D _;refine⟨by simp,.inl ⟨_,_,rfl,run_takeDeferred hK,?_⟩⟩;have oo:=sR d;refine⟨.tuple #[],by simp[results,Tryz.f117,go_sem],rfl,ρ1,o,z.own bh fun r e=>?_,?_,B.up (by omega),(j.eo dw (kids d)).up (by omega)⟩
   ·cases e;exact⟨by omega,_,hK,rfl⟩
   ·exact(Bf.trans t (fun _ _ e=>e)).own bh fun r e=>by cases e;have:=Bf.ae.size;omega
theorem oN{K:Int}(w:World)(ρ:Nat->Nat)(P:Nat)(A:Adr)(f:fZ)(J:List aS)(b:Nat)(d:Nd)(h:St w ρ P A f J)(k:Sz K f)(i:K<=900000)(l:J.length<=800000)(j:f.n b=some d)(g:1<=cu f b)(m:∀c∈kids d,c<f.c.length)(a:d.1=2->∀e∈d.2,0<=e.2.2):
  Calls Tryz.prog 117 #[pT P 0,iV b] w fun e w'=>e=.returned (.tuple #[])/\∃ρ' J',St w' ρ' P (if cu f b=1 then gU A b else A) (letGo f b) J'/\Mv (fun _=>False) w ρ w' ρ'/\JS 11 f J (letGo f b) J'/\Sz (K+10) (letGo f b):=
 (callsIn_wide (n:=5)).1 (aJN Fence.wide 5 (fun h=>callsIn_wide.2 h) (fun _=>trivial) rfl (nR _) w ρ P A f J b d h k i l j g m a)
end Go.Proofs.YtmpagpeenjddgaaGreat
namespace Go.Proofs.YtmpagpeenjddgaaGreat
open Go.RowKit Fo
theorem aGN:∀(es:List E3) (i j:Nat) (e':E3) (v:Value),i<es.length->j<3->aK e'=(aK (es.getD i e0)).set j v->(cC es).setIfInBounds (i*3+j) v=cC (es.set i e'):=by
 have key:∀(es:List E3) (i j:Nat) (e':E3) (v:Value),i<es.length->j<3->aK e'=(aK (es.getD i e0)).set j v->(es.flatMap aK).set (i*3+j) v=(es.set i e').flatMap aK:=by
  intro es;induction es with
  | nil=>intro i j e' v b;simp at b
  | cons e es ih=>
   intro i j e' v b c a;have d:(aK e).length=3:=rfl;cases i with
   | zero=>
    simp only[List.getD_cons_zero]at a;simp only[List.flatMap_cons,List.set_cons_zero,Nat.zero_mul,Nat.zero_add];rw[List.set_append_left _ _ (by rw[d];exact c),a]
   | succ i=>
    simp only[List.getD_cons_succ]at a;simp only[List.flatMap_cons,List.set_cons_succ];rw[List.set_append_right _ _ (by rw[d];omega),d,show(i+1)*3+j-3=i*3+j by omega,ih i j e' v (by simpa using b) c a]
 intro es i j e' v b c a;unfold cC;rw[<-key es i j e' v b c a];simp
theorem aKE(l:List (Int×Int))(t:Nat)(q:Int)(ht:t<l.length):(cY l).setIfInBounds (t*2+1) (iV q)=cY (l.set t ((l.getD t (0,0)).1,q)):=by
 have key:∀(l:List (Int×Int)) (t:Nat),t<l.length->(l.flatMap aW).set (t*2+1) (iV q)=(l.set t ((l.getD t (0,0)).1,q)).flatMap aW:=by
  intro l;induction l with
  | nil=>intro t ht;simp at ht
  | cons e l ih=>
   intro t ht;have a:(aW e).length=2:=rfl;cases t with
   | zero=>simp[aW]
   | succ t=>
    simp only[List.flatMap_cons,List.set_cons_succ,List.getD_cons_succ];rw[List.set_append_right _ _ (by rw[a];omega),a,show(t+1)*2+1-2=t*2+1 by omega,ih t (by simpa using ht)]
 unfold cY;rw[<-key l t ht];simp
variable {w w' : World} {ρ : Nat -> Nat} {P : Nat} {A : Adr} {f : fZ} {J : List aS} {jv : Value}
def gY(A:Adr):Fo.Loc->Addr->Prop
 | .inl t,p=>p=⟨A.ra,t*2+1,none⟩
 | .inr (b,i),p=>∃g,A.α b=some g/\p=⟨g,i*3+2,none⟩
theorem aN.cp{q g:Nat}{k:Int}{es junk:List E3}(h:aN w q (k,es) (Option.some g) junk){i j:Nat}{e':E3}{v:Value}(b:i<es.length)(d:j<3)(he:aK e'=(aK (es.getD i e0)).set j v):aN (w.setCell (aD g (i*3+j)) v) q (k,es.set i e') (Option.some g) junk:=by
 obtain⟨c,a⟩:=h.arr g rfl;refine⟨by simpa using h.box.set_ne (p:=aD g (i*3+j)) v (Ne.symm a),fun g' e=>?_,fun e=>(by cases e),by simpa using h.small⟩;cases e;refine⟨?_,a⟩;have:=c.set (i*3+j) v;rw[aGN _ i j e' v (by simp;omega) d (by
  rw[he,gD,gD,List.getElem?_append_left b])]at this
 rw[List.set_append_left _ _ b]at this;exact this
theorem aGL(h:Rp w ρ P A f jv){b:Nat}{d:Nd}(c:f.n b=some d):jI ρ (A.α b) b=ρ:=by
 obtain⟨q,g,i,a,_⟩:=h.nd b d c;funext k;by_cases e:A.α b=some k
 ·simp[jI,e,a k e]
 ·exact xQ e
theorem aES(A:Adr)(b:Nat):dR A b (A.α b)=A:=by
 have:upd A.α b (A.α b)=A.α:=funext fun x=>by by_cases e:x=b<;>simp[upd,e]
 unfold dR;rw[this]
theorem St.aw(h:St w ρ P A f J){b q:Nat}{d d':Nd}(a:f.n b=some d)(j:A.φ b=some q){junk':List E3}(k:Frm (fun x=>x=q\/A.α b=some x) w w')(c:aN w' q d' (A.α b) junk'):St w' ρ P A (setN f b d') J/\Mv (fun _=>False) w ρ w' ρ:=by
 obtain⟨_,_,_,i,_⟩:=id h;have:=h.node a j k c (fun g e=>.inl e);rw[aGL i a,aES]at this;exact this
theorem St.ah(h:St w ρ P A f J){b:Nat}{d:Nd}(l:f.n b=some d):∃q junk,A.φ b=some q/\ρ q=cK b/\(∀g,A.α b=some g->ρ g=cI b)/\aN w q d (A.α b) junk:=by
 obtain⟨_,_,_,k,_⟩:=h;obtain⟨q,a,c,e,j,i⟩:=k.nd b d l;exact⟨q,j,a,c,e,i⟩
theorem St.b8(h:St w ρ P A f J)(l:IC f){L:Fo.Loc}(m:dU f L){p:Addr}(r:gY A L p):w.cell? p=some (iV (bN f L))/\w.frozen? p=false:=by
 obtain⟨_,_,_,n,_⟩:=id h;cases L with
 | inl t=>
  subst r;have ht:t<f.r.length:=m;have d:f.r.getD t (0,0)∈f.r:=by rw[gD,gE ht];exact List.getElem_mem _
  refine⟨?_,n.hr.frozen _⟩;rw[n.hr.cell,(lK (f.r++A.rj) (i:=t) (by simp;omega)).2];have j:(f.r++A.rj).getD t (0,0)=f.r.getD t (0,0):=by rw[gD,List.getElem?_append_left ht,<-gD]
  rw[j];simp only[bN];have:=(l.rb _ d).1;rw[show(((f.r.getD t (0,0)).2.toNat:Nat):Int)=(f.r.getD t (0,0)).2 by omega]
 | inr s=>
  obtain⟨b,i⟩:=s;obtain⟨g,z,rfl⟩:=r;obtain⟨D,es,c,o⟩:=m;obtain⟨q,a,j,B,C,k⟩:=h.ah c;rw[z]at k;have e:=(k.arr g rfl).1;refine⟨?_,e.frozen _⟩;have v:i <(es++a).length:=by simp;omega
  rw[(bM e v).2.2];have u:(es++a).getD i e0=es.getD i e0:=by rw[gD,List.getElem?_append_left o,<-gD]
  simp only
  rw[u];simp only[bN,aF c,ch];have d:es.getD i e0∈es:=by rw[gD,gE o];exact List.getElem_mem _
  have:=l.kb b _ c
  rcases this with x | ⟨_,_,y⟩
  ·simp at x
  ·have:=(y _ d).1
   rw[show(((es.getD i e0).2.2.toNat:Nat):Int)=(es.getD i e0).2.2 by omega]
theorem St.bR(h:St w ρ P A f J){L:Fo.Loc}(s:dU f L){p:Addr}(u:gY A L p)(q:Nat):St (w.setCell p (iV (q:Int))) ρ P A (setL f L q) J/\Mv (fun _=>False) w ρ (w.setCell p (iV (q:Int))) ρ:=by
 cases L with
 | inl t=>
  subst u;have ht:t<f.r.length:=s;have j:ρ A.ra=2:=by obtain⟨_,_,_,D,_⟩:=h;exact D.rr
  have k:Frm (fun x=>x=A.ra) w (w.setCell (aD A.ra (t*2+1)) (iV (q:Int))):=Frm.set (S:=fun x=>x=A.ra) w (p:=aD A.ra (t*2+1)) rfl _;refine⟨h.of k (fun x e=>by rw[e,j];exact aDY.2) (fun _ _ _=>rfl) fun O a=>?_,k.wide (fun x _ e=>.inl (by rw[e,j];omega)),fun _ _ _=>rfl⟩;have c:∀{x r},ρ x=r->r≠2->¬x=A.ra:=fun {x r} e G q=>G (by rw[<-e,q,j]);refine a.gen (Kp.same a k) (.inl ⟨c a.rP (by omega),?_⟩) (.inr ⟨?_,j⟩) (.inl ⟨c a.rm (by omega),rfl⟩) rfl (.inl ⟨c a.rc (by omega),rfl⟩) rfl (.inl ⟨c a.rd (by omega),rfl,rfl⟩) (fun x d H=>.inl ⟨H,rfl,rfl,fun y I=>?_⟩) a.no (by simpa [setL] using a.rs) a.ds
  ·simp[dH,setL]
  ·have:=a.hr.set (t*2+1) (iV (q:Int))
   rw[aKE _ t q (by simp;omega)]at this;have m:(f.r++A.rj).getD t (0,0)=f.r.getD t (0,0):=by rw[gD,List.getElem?_append_left ht,<-gD]
   rw[m,List.set_append_left _ _ ht]at this;exact this
  ·rcases I with e | e
   ·exact c e (by unfold cK;omega)
   ·exact c e (by unfold cI;omega)
 | inr B=>
  obtain⟨b,i⟩:=B;obtain⟨g,n,rfl⟩:=u;obtain⟨N,es,l,F⟩:=s;obtain⟨Q,z,m,K,M,o⟩:=h.ah l;rw[n]at o;have E:=o.cp (v:=iV (q:Int)) (e':=((es.getD i e0).1,(es.getD i e0).2.1,(q:Int))) F (by omega:2<3) (by simp[aK]);have:=h.aw (w':=w.setCell (aD g (i*3+2)) (iV (q:Int))) l m (Frm.set w (p:=aD g (i*3+2)) (.inr n) _) (by rw[n];exact E);have C:setL f (.ai b i) q=setN f b (2,es.set i ((es.getD i e0).1,(es.getD i e0).2.1,(q:Int))):=by simp[setL,setE,aF l]
  rw[C];exact this
end Go.Proofs.YtmpagpeenjddgaaGreat
namespace Go.Proofs.YtmpagpeenjddgaaGreat
open Go.RowKit Fo
variable{p:Addr}{A B:Adr}{L:Fo.Loc}{K:Int}{P b:Nat}{ρ:Nat->Nat}{X Y:Nat->Prop}{d:Nd}{w:World}{f:fZ}
structure AdS(X:Nat->Prop)(A A':Adr):Prop where
 ra:A'.ra=A.ra
 rj:A'.rj=A.rj
 m:A'.m=A.m
 c:A'.c=A.c
 d:A'.d=A.d
 dj:A'.dj=A.dj
 tv:A'.tv=A.tv
 φ:∀x,¬X x->A'.φ x=A.φ x
 α:∀x,¬X x->A'.α x=A.α x
theorem AdS.refl(X:Nat->Prop)(A:Adr):AdS X A A:=⟨rfl,rfl,rfl,rfl,rfl,rfl,rfl,fun _ _=>rfl,fun _ _=>rfl⟩
theorem AdS.trans{C:Adr}(h:AdS X A B)(k:AdS Y B C):AdS (fun x=>X x\/Y x) A C:=
 ⟨k.ra.trans h.ra,k.rj.trans h.rj,k.m.trans h.m,k.c.trans h.c,k.d.trans h.d,k.dj.trans h.dj,k.tv.trans h.tv,fun x a=>(k.φ x fun q=>a (.inr q)).trans (h.φ x fun q=>a (.inl q)),fun x a=>(k.α x fun q=>a (.inr q)).trans (h.α x fun q=>a (.inl q))⟩
theorem AdS.up(h:AdS X A B)(b:∀x,X x->Y x):AdS Y A B:={h with φ:=fun x a=>h.φ x fun q=>a (b x q),α:=fun x a=>h.α x fun q=>a (b x q)}
theorem AdS.put(A:Adr)(b q:Nat)(a:Option Nat):AdS (fun x=>x=b) A (dB A b q a):=⟨rfl,rfl,rfl,rfl,rfl,rfl,rfl,fun x c=>aC _ _ c,fun x c=>aC _ _ c⟩
theorem AdS.del(A:Adr)(b:Nat):AdS (fun x=>x=b) A (gU A b):=⟨rfl,rfl,rfl,rfl,rfl,rfl,rfl,fun x a=>aC _ _ a,fun _ _=>rfl⟩
theorem AdS.arr(A:Adr)(b:Nat)(a:Option Nat):AdS (fun x=>x=b) A (dR A b a):=⟨rfl,rfl,rfl,rfl,rfl,rfl,rfl,fun _ _=>rfl,fun x c=>aC _ _ c⟩
structure Dn(k:Nat)(X:Nat->Prop)(w:World)(ρ:Nat->Nat)(P:Nat)(A:Adr)(f:fZ)(J:List aS)(w':World)(ρ':Nat->Nat)(A':Adr)(g:fZ)(J':List aS):Prop where
 st:St w' ρ' P A' g J'
 mv:Mv (fun _=>False) w ρ w' ρ'
 js:JS k f J g J'
 ad:AdS X A A'
structure Pk(k:Nat)(w:World)(ρ:Nat->Nat)(P:Nat)(f:fZ)(J:List aS)(e:Ending)(w':World):Prop where
 e:e=aCH
 ex:∃ρ' A' g J',St w' ρ' P A' g J'/\Mv (fun _=>False) w ρ w' ρ'/\JS k f J g J'
theorem Dn.below{k:Nat}{w1 w2:World}{ρ1:Nat->Nat}{A1:Adr}{g:fZ}{J J1:List aS}(h:Dn k X w ρ P A f J w1 ρ1 A1 g J1)(a:Bl w1 w2):Dn k X w ρ P A f J w2 ρ1 A1 g J1:=
 ⟨h.st.below a,h.mv.trans (Mv.aa a) (fun _ _ e=>e),h.js,h.ad⟩
theorem below_drewN(w:World)(n:Nat):Bl w (w.drewN n):=⟨rfl,rfl,rfl,nR _,fun _ _=>rfl⟩
structure ShP(w:World)(ρ:Nat->Nat)(P:Nat)(A:Adr)(f:fZ)(J:List aS)(L:Fo.Loc)(K:Int)(e:Ending)(w':World):Prop where
 no:shadow f L=none->Pk 0 w ρ P f J e w'
 yes:∀g c,shadow f L=some (g,c)->∃ρ' A' J' q,e=.returned (pT q 0)/\A'.φ c=some q/\Dn 12 (fun x=>x=c\/x=bN f L) w ρ P A f J w' ρ' A' g J'/\Tch c J'/\Sz (K+10) g
theorem aEF(h:IC f)(a:f.n b=some d):d.1=2->∀e∈d.2,0<=e.2.2:=fun g e c=>by
 rcases h.kb b d a with q | ⟨_,_,q⟩
 ·omega
 ·exact(q e c).1
theorem aJR(e:IC f)(g:dU f L):∃d,f.n (bN f L)=some d:=by
 cases L with
 | inl t=>
  have ht:t<f.r.length:=g;have k:f.r.getD t (0,0)∈f.r:=by rw[gD,gE ht];exact List.getElem_mem _
  exact e.ao k
 | inr h=>
  obtain⟨b,i⟩:=h;obtain⟨l,es,a,j⟩:=g;refine e.af a (c:=bN f (.ai b i)) ?_;simp only[bN,aF a];exact gP j
theorem jO(c:dU f L)(q:Nat):bN (setL f L q) L=q/\dU (setL f L q) L:=by
 cases L with
 | inl t=>
  have ht:t<f.r.length:=c;refine⟨?_,by show t <(f.r.set t _).length;simpa using ht⟩;show((f.r.set t ((f.r.getD t (0,0)).1,(q:Int))).getD t (0,0)).2.toNat=q
  rw[bF _ _ _ _ _ ht,if_pos rfl];simp
 | inr g=>
  obtain⟨b,i⟩:=g;obtain⟨h,es,e,d⟩:=c;have a:setL f (.ai b i) q=setN f b (2,es.set i ((es.getD i e0).1,(es.getD i e0).2.1,(q:Int))):=by simp[setL,setE,aF e]
  have j:(setL f (.ai b i) q).n b=some (2,es.set i ((es.getD i e0).1,(es.getD i e0).2.1,(q:Int))):=by rw[a];exact aE _ _ _
  refine⟨?_,by rw[a];exact⟨h,_,aE _ _ _,by simpa using d⟩⟩;simp only[bN,aF j];rw[bF _ _ _ _ _ d,if_pos rfl];simp[ch]
theorem zV(c:dU f L){q:Nat}(k:f.n q=none)(d:Nd):dU (takeAt f q d) L:=by
 cases L with
 | inl t=>exact c
 | inr g=>
  obtain⟨b,i⟩:=g;obtain⟨h,es,a,j⟩:=c;refine⟨by simpa [takeAt] using h,es,?_,j⟩;show upd f.n q (some d) b=_
  rw[aC _ _ (fun e=>by rw[e,k]at a;cases a)];exact a
theorem vR(c:dU f L)(h:∀b' i,L=.ai b' i->b'≠b):dU (letGo f b) L/\bN (letGo f b) L=bN f L:=by
 cases L with
 | inl t=>exact⟨by show t <(letGo f b).r.length;rw[dY];exact c,by simp only[bN,dY]⟩
 | inr e=>
  obtain⟨b',i⟩:=e;obtain⟨g,es,a,j⟩:=c;have d:(letGo f b).n b'=some (2,es):=by
   rw[cV];split
   ·rw[aC _ _ (h b' i rfl)];exact a
   ·exact a
  exact⟨⟨by rw[iI];exact g,es,d,j⟩,by simp only[bN,aF d,aF a]⟩
theorem St.bC{J:List aS}(h:St w ρ P A f J)(k:dU f L)(m:gY A L p):∃v,w.cell? p=some (iV v)/\w.frozen? p=false/\(0<=v->v=(bN f L:Int)):=by
 obtain⟨_,_,_,l,_⟩:=id h;cases L with
 | inl t=>
  subst m;have ht:t<f.r.length:=k;refine⟨((f.r++A.rj).getD t (0,0)).2,?_,l.hr.frozen _,?_⟩
  ·rw[l.hr.cell,(lK (f.r++A.rj) (i:=t) (by simp;omega)).2]
  ·have e:(f.r++A.rj).getD t (0,0)=f.r.getD t (0,0):=by rw[gD,List.getElem?_append_left ht,<-gD]
   rw[e];intro q;simp only[bN];omega
 | inr n=>
  obtain⟨b,i⟩:=n;obtain⟨g,r,rfl⟩:=m;obtain⟨y,es,d,s⟩:=k;obtain⟨q,a,e,u,x,j⟩:=h.ah d;rw[r]at j;have c:=(j.arr g rfl).1;refine⟨_,(bM c (i:=i) (by simp;omega)).2.2,c.frozen _,?_⟩;have o:(es++a).getD i e0=es.getD i e0:=by rw[gD,List.getElem?_append_left s,<-gD]
  simp only
  rw[o];intro q;simp only[bN,aF d,ch];omega
theorem xG{A':Adr}(h:AdS X A A')(a:gY A L p)(f:∀b i,L=.ai b i->¬X b):gY A' L p:=by
 cases L with
 | inl t=>have c:p=⟨A.ra,t*2+1,none⟩:=a;show p=⟨A'.ra,_,none⟩;rw[h.ra];exact c
 | inr d=>
  obtain⟨b,i⟩:=d;obtain⟨g,j,e⟩:=a;exact⟨g,by rw[h.α b (f b i rfl)];exact j,e⟩
theorem Sz.takeAt(h:Sz K f)(a:1<=K)(c:b<f.c.length)(hd:d.2.length<=10):Sz K (takeAt f b d):=(h.setN c hd).setC b (v:=1) (by omega) a
theorem Sz.setL(h:Sz K f)(d:dU f L)(q:Nat):Sz K (setL f L q):=by
 cases L with
 | inl t=>exact h.of rfl rfl h.cb fun _ _ q=>.inl q
 | inr c=>
  obtain⟨b,i⟩:=c;obtain⟨e,es,a,g⟩:=d;have:=h.ai b _ a;exact h.setN e (by simpa [setE,aF a] using this)
theorem iM(w:World)(ρ:Nat->Nat)(P:Nat)(A:Adr)(f:fZ)(J:List aS)(L:Fo.Loc)(p:Addr)(h:St w ρ P A f J)(y:IC f)(m:Sz K f)(vf:1<=K)(hK:K<=800000)(lq:J.length<=700000)(D:dU f L)(hp:gY A L p)(sm:∀b i,L=.ai b i->Tch b J):
  Calls Tryz.prog 97 #[pT P 0,.pointer (some p)] w (ShP w ρ P A f J L K):=by
 obtain⟨d,l⟩:=aJR y D;obtain⟨lw,yf⟩:=h.b8 y D hp;obtain⟨b,s⟩:=eZ (bN f L);rw[s]at l lw;have d5:b<f.c.length:=m.lt b d l;have DC:(b:Int) <(f.c.length:Int):=by omega
 have Yb:(b:Int) <(f.m.length:Int):=by have:=m.m;omega
 obtain⟨ja,jp,jj,hR,hJ⟩:=id h;obtain⟨m3,m4,m5,m7⟩:=hR.cells;have jy:=hR.count d5;have CW:w.cell? (aD A.d b)=some (iV (co f b)):=aNT hR.hd (by rw[m.m];exact d5);obtain⟨q,U,hφ,yw,yu,hN⟩:=h.ah l;go_enter Tryz.func97,Tryz.ntmps97;by_cases ho:own f b
 ·have v:shadow f L=some (f,b):=by unfold shadow;rw[s,if_pos ho]
  obtain⟨o1,o2⟩:=ho;rw[o1]at jy;rw[o2]at CW;go_wp2_with fail;refine(mD _ ρ P A f J b h m d5 (by omega)).mono ?_;rintro e w2 ⟨rfl,ρ2,G,ml,-,-⟩;obtain⟨ja2,jp2,jj2,je,qn⟩:=id G;obtain⟨n3,n4,n5,n7⟩:=je.cells;have ig:=je.hm.lookup b (by have:=m.al;omega);rw[hφ]at ig;simp only[fB,Option.map_some]at ig;go_wp2;go_ret;refine⟨fun q=>(by rw[v]at q;cases q),fun g c r=>?_⟩;rw[v]at r;cases r;exact⟨ρ2,A,_,q,rfl,hφ,⟨G,ml,(JS.save d5).up (by omega),AdS.refl _ _⟩,Tch.saved,m.up (by omega)⟩
 ·have ig:=hR.hm.lookup b (by have:=m.al;omega)
  rw[hφ]at ig;simp only[fB,Option.map_some]at ig;have fw:(cu f b≠1)\/(cu f b=1/\co f b≠0):=by
   by_cases O:cu f b=1
   ·exact .inr ⟨O,fun c2=>ho ⟨O,c2⟩⟩
   ·exact .inl O
  have HN:=aA hN;have UI:Hid (1<=cu f b):=by have:=y.a7 l;show 1<=cu f b;omega
  have gh:=m.ai b d l;have GO:∀x,w.heap.size<=x->ρ x=0:=fun x hx=>Nat.eq_zero_of_not_pos fun q=>absurd (hR.own x (by omega)) (by omega);have L9:∀k i,L=.ai k i->k≠b:=fun k i e e'=>by
   subst e;subst e';obtain⟨_,es,o,hi⟩:=D;have hm:bN f (.ai k i)∈kids (2,es):=by simp only[bN,aF o];exact gP hi
   rw[s]at hm;exact y.ag o hm
  have nn:=m.cb b;rcases fw with O | ⟨O,c2⟩
  ·have c1':(cu f b == 1)=false:=by simpa using O
   go_wp2_with fail
   refine(mQ q d (A.α b) U _ hN gh).mono ?_;rintro e w1 ⟨u,rfl,⟨a,j,j1,rfl,k1,k2,k3⟩,Y⟩;have bw:=h.below Y;go_wp2_with fail;refine(pB w1 ρ P A f J a d j j1 bw m (by omega) (by omega) k3 (GO a k1) (fun g e=>GO g (k2 g e))).mono ?_;intro e w2 Z;by_cases E:aG f=0
   ·obtain⟨rfl,c9⟩:=Z.no E
    have v:shadow f L=none:=by unfold shadow;rw[s,if_neg ho,if_pos E]
    exact⟨rfl,fun _=>⟨rfl,ρ,A,f,J,bw.below c9,(Mv.aa Y).trans (Mv.aa c9) (fun _ _ e=>e),JS.refl _ _⟩,fun g c r=>by rw[v]at r;cases r⟩
   ·obtain⟨rfl,ρ2,G,ml,-⟩:=Z.yes E
    have v:shadow f L=some (shadowAt f L (aG f),aG f):=by unfold shadow;rw[s,if_neg ho,if_neg E]
    obtain⟨l1,R,l3,l4⟩:=aP E;have Q:f.n (aG f)=none:=(y.bb.dead _).2 l3;generalize aG f=z at *;have V:b≠z:=fun e=>by rw[e,Q]at l;cases l
    have sw:Mv (fun _=>False) w ρ w2 ρ2:=((Mv.aa (X:=fun x=>x=a\/j=some x) (ρ:=ρ) Y).trans ml (fun _ _ e=>e)).up fun x hx e=>by
     rcases e with e | e
     ·omega
     ·have:=k2 x e;omega
    have B:=zV D Q d;have Ck:gY (dB A z a j) L p:=xG (AdS.put A z a j) hp fun k i e e'=>by
     subst e;subst e';obtain⟨_,es,o,hi⟩:=D;rw[Q]at o;cases o
    obtain⟨v2,jg,mr,-⟩:=G.bC B Ck;obtain⟨cx,Fs⟩:=G.bR B Ck z;have xm:Sz K (setL (takeAt f z d) L z):=(m.takeAt vf R gh).setL B z;have E9:(setL (takeAt f z d) L z).n b=some d:=by
     have e1:(takeAt f z d).n b=some d:=by show upd f.n z (some d) b=_;rw[aC _ _ V];exact l
     cases L with
     | inl t=>exact e1
     | inr bi=>obtain⟨k,i⟩:=bi;exact(aC _ _ (Ne.symm (L9 k i rfl))).trans e1
    have Km:cu (setL (takeAt f z d) L z) b=cu f b:=by
     unfold cu;rw[bI];exact jL f 1 V
    have vd:JS 1 f J (setL (takeAt f z d) L z) (J++[(z,cu f z,f.n z)]):=((JS.save R).trans (JS.takeAt d Tch.saved)).trans (JS.setL L z fun k i e=>(JS.save R).b5 k (sm k i e));have oh:∀c∈kids d,c <(setL (takeAt f z d) L z).c.length:=fun c hc=>by rw[bI];simpa [takeAt] using y.bg l hc
    go_wp2_with fail
    refine(oN _ ρ2 P (dB A z a j) (setL (takeAt f z d) L z) (J++[(z,cu f z,f.n z)]) b d cx xm (by omega) (by simp;omega) E9 (by rw[Km];exact UI.out) oh (aEF y l)).mono ?_;rintro e T ⟨rfl,ρ4,W,C,Bf,I,F⟩;have If:letGo (setL (takeAt f z d) L z) b=shadowAt f L z:=by unfold shadowAt;rw[s,aF l]
    have N:=vR (jO B z).2 L9;rw[(jO B z).1]at N;have JW:AdS (fun x=>x=z\/x=b) A (if cu (setL (takeAt f z d) L z) b=1 then gU (dB A z a j) b else dB A z a j):=by
     split
     ·exact(AdS.put A z a j).trans (AdS.del _ b)
     ·exact(AdS.put A z a j).up fun x e=>.inl e
    have tz:(if cu (setL (takeAt f z d) L z) b=1 then gU (dB A z a j) b else dB A z a j).φ z=some a:=by
     split
     ·show upd (upd A.φ z (some a)) b none z=_
      rw[aC _ _ (Ne.symm V),aE]
     ·exact aE _ _ _
    generalize (if cu (setL (takeAt f z d) L z) b=1 then gU (dB A z a j) b else dB A z a j)=H at *;rw[If]at C I F N;have TY:gY H L p:=xG JW hp fun k i e e'=>by
     rcases e' with e' | e'
     ·subst e;subst e'
      obtain⟨_,es,o,hi⟩:=D;rw[Q]at o;cases o
     ·exact L9 k i e e'
    obtain⟨I1,-⟩:=y.shadow D s l l1 R l3;obtain⟨SE,GA⟩:=C.b8 I1 N.1 TY;rw[N.2]at SE;obtain⟨ja4,jp4,jj4,mm,Jo⟩:=id C;have o3:=mm.cells.m3;have TI:∀n,(Instr.lookup 64 (.map (some H.m)) (iV z) false).run Tryz.prog (T.drewN n)=.ok (pT a 0) (T.drewN n):=fun n=>by
     have:=(mm.hm.of (w':=T.drewN n) rfl).lookup z (by have:=m.al;omega)
     rw[tz]at this;simpa only[fB,Option.map_some] using this
    have S:Dn 12 (fun x=>x=z\/x=b) w ρ P A f J T ρ4 H (shadowAt f L z) W:=⟨C,(sw.trans Fs (fun _ _ e=>e)).trans Bf (fun _ _ e=>e),vd.trans I |>.up (by omega),JW⟩;have M:Tch z W:=I.b5 z Tch.saved;have HF:=aA (aI S (aI M F));clear S F M I C Bf vd cx Fs ml sw mm Jo Z G;go_wp2;go_quiet (fail);go_wp2;go_ret;obtain⟨S,M,F⟩:=HF.out;refine⟨fun q=>(by rw[v]at q;cases q),fun g c r=>?_⟩;rw[v]at r;cases r;exact⟨ρ4,H,W,a,rfl,tz,by rw[s];exact S.below (below_drewN _ _),M,F⟩
  ·have c2':(co f b == 0)=false:=by simpa using c2
   rw[O]at jy;have HC:=aA O;clear O;go_wp2_with fail;refine(mQ q d (A.α b) U _ hN gh).mono ?_;rintro e w1 ⟨u,rfl,⟨a,j,j1,rfl,k1,k2,k3⟩,Y⟩;have bw:=h.below Y;go_wp2_with fail;refine(pB w1 ρ P A f J a d j j1 bw m (by omega) (by omega) k3 (GO a k1) (fun g e=>GO g (k2 g e))).mono ?_;intro e w2 Z;by_cases E:aG f=0
   ·obtain⟨rfl,c9⟩:=Z.no E
    have v:shadow f L=none:=by unfold shadow;rw[s,if_neg ho,if_pos E]
    exact⟨rfl,fun _=>⟨rfl,ρ,A,f,J,bw.below c9,(Mv.aa Y).trans (Mv.aa c9) (fun _ _ e=>e),JS.refl _ _⟩,fun g c r=>by rw[v]at r;cases r⟩
   ·obtain⟨rfl,ρ2,G,ml,-⟩:=Z.yes E
    have v:shadow f L=some (shadowAt f L (aG f),aG f):=by unfold shadow;rw[s,if_neg ho,if_neg E]
    obtain⟨l1,R,l3,l4⟩:=aP E;have Q:f.n (aG f)=none:=(y.bb.dead _).2 l3;generalize aG f=z at *;have V:b≠z:=fun e=>by rw[e,Q]at l;cases l
    have sw:Mv (fun _=>False) w ρ w2 ρ2:=((Mv.aa (X:=fun x=>x=a\/j=some x) (ρ:=ρ) Y).trans ml (fun _ _ e=>e)).up fun x hx e=>by
     rcases e with e | e
     ·omega
     ·have:=k2 x e;omega
    have B:=zV D Q d;have Ck:gY (dB A z a j) L p:=xG (AdS.put A z a j) hp fun k i e e'=>by
     subst e;subst e';obtain⟨_,es,o,hi⟩:=D;rw[Q]at o;cases o
    obtain⟨v2,jg,mr,-⟩:=G.bC B Ck;obtain⟨cx,Fs⟩:=G.bR B Ck z;have xm:Sz K (setL (takeAt f z d) L z):=(m.takeAt vf R gh).setL B z;have E9:(setL (takeAt f z d) L z).n b=some d:=by
     have e1:(takeAt f z d).n b=some d:=by show upd f.n z (some d) b=_;rw[aC _ _ V];exact l
     cases L with
     | inl t=>exact e1
     | inr bi=>obtain⟨k,i⟩:=bi;exact(aC _ _ (Ne.symm (L9 k i rfl))).trans e1
    have Km:cu (setL (takeAt f z d) L z) b=cu f b:=by
     unfold cu;rw[bI];exact jL f 1 V
    have vd:JS 1 f J (setL (takeAt f z d) L z) (J++[(z,cu f z,f.n z)]):=((JS.save R).trans (JS.takeAt d Tch.saved)).trans (JS.setL L z fun k i e=>(JS.save R).b5 k (sm k i e));have oh:∀c∈kids d,c <(setL (takeAt f z d) L z).c.length:=fun c hc=>by rw[bI];simpa [takeAt] using y.bg l hc
    go_wp2_with fail
    refine(oN _ ρ2 P (dB A z a j) (setL (takeAt f z d) L z) (J++[(z,cu f z,f.n z)]) b d cx xm (by omega) (by simp;omega) E9 (by rw[Km];exact UI.out) oh (aEF y l)).mono ?_;rintro e T ⟨rfl,ρ4,W,C,Bf,I,F⟩;have If:letGo (setL (takeAt f z d) L z) b=shadowAt f L z:=by unfold shadowAt;rw[s,aF l]
    have N:=vR (jO B z).2 L9;rw[(jO B z).1]at N;have JW:AdS (fun x=>x=z\/x=b) A (if cu (setL (takeAt f z d) L z) b=1 then gU (dB A z a j) b else dB A z a j):=by
     split
     ·exact(AdS.put A z a j).trans (AdS.del _ b)
     ·exact(AdS.put A z a j).up fun x e=>.inl e
    have tz:(if cu (setL (takeAt f z d) L z) b=1 then gU (dB A z a j) b else dB A z a j).φ z=some a:=by
     split
     ·show upd (upd A.φ z (some a)) b none z=_
      rw[aC _ _ (Ne.symm V),aE]
     ·exact aE _ _ _
    generalize (if cu (setL (takeAt f z d) L z) b=1 then gU (dB A z a j) b else dB A z a j)=H at *;rw[If]at C I F N;have TY:gY H L p:=xG JW hp fun k i e e'=>by
     rcases e' with e' | e'
     ·subst e;subst e'
      obtain⟨_,es,o,hi⟩:=D;rw[Q]at o;cases o
     ·exact L9 k i e e'
    obtain⟨I1,-⟩:=y.shadow D s l l1 R l3;obtain⟨SE,GA⟩:=C.b8 I1 N.1 TY;rw[N.2]at SE;obtain⟨ja4,jp4,jj4,mm,Jo⟩:=id C;have o3:=mm.cells.m3;have TI:∀n,(Instr.lookup 64 (.map (some H.m)) (iV z) false).run Tryz.prog (T.drewN n)=.ok (pT a 0) (T.drewN n):=fun n=>by
     have:=(mm.hm.of (w':=T.drewN n) rfl).lookup z (by have:=m.al;omega)
     rw[tz]at this;simpa only[fB,Option.map_some] using this
    have S:Dn 12 (fun x=>x=z\/x=b) w ρ P A f J T ρ4 H (shadowAt f L z) W:=⟨C,(sw.trans Fs (fun _ _ e=>e)).trans Bf (fun _ _ e=>e),vd.trans I |>.up (by omega),JW⟩;have M:Tch z W:=I.b5 z Tch.saved;have HF:=aA (aI S (aI M F));clear S F M I C Bf vd cx Fs ml sw mm Jo Z G;go_wp2;go_quiet (fail);go_wp2;go_ret;obtain⟨S,M,F⟩:=HF.out;refine⟨fun q=>(by rw[v]at q;cases q),fun g c r=>?_⟩;rw[v]at r;cases r;exact⟨ρ4,H,W,a,rfl,tz,by rw[s];exact S.below (below_drewN _ _),M,F⟩
