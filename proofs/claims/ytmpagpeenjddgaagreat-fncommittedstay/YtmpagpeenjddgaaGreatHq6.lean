import Derived.Test.YtmpagpeenjddgaaGreatHq1
set_option maxHeartbeats 9999999
set_option maxRecDepth 99999
set_option linter.all false
namespace Go.Proofs.YtmpagpeenjddgaaGreat
open Go.RowKit Go.Shelf Fo
attribute [local go_sem] Oper.semAt_some
variable {w w' : World} {ρ : Nat -> Nat} {P : Nat} {A : Adr} {f : fZ} {J : List aR}
theorem IsC.own{g:Nat}{cs:Array Value}{t:TypeId}{row:Option Nat}(h:IsC w g cs t)(c:w.grownBy w' row)(hr:∀r,row=some r->∃o:Obj,w.heap[r]?=some o/\o.isCells=false):IsC w' g cs t:=by
 refine h.of (c.block g h.lt fun e=>?_);obtain⟨o,a,b⟩:=hr g e.symm;rw[show w.heap[g]?=_ from h]at a;cases a;cases b
theorem aM.own{q:Nat}{d:Nd}{a:Option Nat}{junk:List E3}{row:Option Nat}(h:aM w q d a junk)(b:w.grownBy w' row)(hr:∀r,row=Option.some r->∃o:Obj,w.heap[r]?=Option.some o/\o.isCells=false):aM w' q d a junk:=
 ⟨h.box.own b hr,fun g e=>⟨(h.arr g e).1.own b hr,(h.arr g e).2⟩,h.nil,h.small⟩
theorem St.own{row:Option Nat}(h:St w ρ P A f J)(l:w.grownBy w' row)(hr:∀r,row=some r->r≠A.m/\∃o:Obj,w.heap[r]?=some o/\o.isCells=false):St w' ρ P A f J:=by
 obtain⟨B,D,C,c,n⟩:=h;have m:∀r,row=some r->∃o:Obj,w.heap[r]?=some o/\o.isCells=false:=fun r e=>(hr r e).2;refine⟨B,D,C,⟨fun k z=>lL (c.own k z) l.size,c.hP.own l m,c.rP,c.hr.own l m,c.rr,c.hm.of (l.block _ c.hm.lt fun e=>(hr _ e.symm).1 rfl),c.rm,c.hc.own l m,c.rc,c.hd.own l m,c.rd,fun b d x=>?_,c.no,c.rs,c.ds⟩,fun p=>⟨fun g e=>⟨((n p).arr g e).1.own l m,((n p).arr g e).2⟩,(n p).nil,(n p).small,(n p).len,fun i y=>?_⟩⟩
 ·obtain⟨q,u,v,s,j,E⟩:=c.nd b d x
  exact⟨q,u,v,s,j,E.own l m⟩
 ·obtain⟨u,v,s⟩:=(n p).row i y
  refine⟨u,v,?_⟩;cases e:(J.getD i jr0).2.2 with
  | none=>rw[e]at s;exact s
  | some d=>
   rw[e]at s;obtain⟨q,a,t,F,G,H,I⟩:=s;exact⟨q,a,t,F,G,H,I.own l m⟩
theorem Mv.own{X:Nat->Prop}{w0:World}{ρ0:Nat->Nat}{row:Option Nat}(h:Mv X w0 ρ0 w ρ)(a:w.grownBy w' row)(hr:∀r,row=some r->w0.heap.size<=r):Mv X w0 ρ0 w' ρ:=
 ⟨⟨a.os.trans h.ae.os,a.tape.trans h.ae.tape,a.output.trans h.ae.output,lT h.ae.size a.size,fun k b c=>(a.block k (lL b h.ae.size) fun e=>by have:=hr k e.symm;omega).trans (h.ae.block k b c)⟩,h.br⟩
def iI(f:fZ)(b:Nat)(ks:List Nat):fZ:={f with c:=iT (f.c.set b (cu f b-1)) ks}
theorem zL(b:List Nat)(k:Nat):∀c:List Int,iT c (b++[k])=(iT c b).set k ((iT c b).getD k 0+1):=by
 induction b with
 | nil=>intro c;rfl
 | cons a b ih=>intro c;exact ih _
theorem pP(f:fZ)(b:Nat)(a:List Nat)(k:Nat):iI f b (a++[k])=setC (iI f b a) k (cu (iI f b a) k+1):=by
 unfold iI setC cu;simp only[zL]
theorem aAA(f:fZ)(b:Nat)(a:List Nat):(iI f b a).c.length=f.c.length:=by simp[iI,mV]
theorem aJL(f:fZ)(b:Nat):iI f b []=setC f b (cu f b-1):=rfl
theorem Sz.el{K:Int}{f:fZ}(h:Sz K f){b:Nat}(c:1<=cu f b):∀ks:List Nat,Sz (K+ks.length) (iI f b ks):=by
 intro ks;have key:∀l:List Nat,Sz (K+l.reverse.length) (iI f b l.reverse):=fun l=>by
  induction l with
  | nil=>rw[List.reverse_nil,aJL];exact(h.setC b (by omega) (by have:=h.cb b;omega)).up (by simp)
  | cons a l ih=>
   rw[List.reverse_cons,pP];have:=ih.cb a;refine(ih.up ?_).setC a (by omega) (by simp only[lP,List.length_cons,List.length_nil];omega);simp only[lP,List.length_cons,List.length_nil];omega
 simpa using key ks.reverse
theorem aFV{f:fZ}{b:Nat}{d:Nd}(h1:cu f b≠1)(hd:f.n b=some d):letGo f b=iI f b (kids d):=by
 unfold letGo;rw[if_neg h1,hd];rfl
theorem aJE{K:Int}(F:Fence)(n:Nat)(hW:∀{f:FuncId} {args:Array Value} {w:World} {R:Ending->World->Prop} {m:Nat},Calls Tryz.prog f args w R->CallsIn F m Tryz.prog f args w R)(qg:∀k,F.fn k)(dq:F.round=none)(hn:5<=n)
  (w:World) (ρ:Nat->Nat) (P:Nat) (A:Adr) (f:fZ) (J:List aR) (b:Nat) (d:Nd) (h:St w ρ P A f J) (j:Sz K f) (hK:K<=900000) (lm:J.length<=800000) (hb:f.n b=some d) (ff:1<=cu f b) (qk:∀c∈kids d,c<f.c.length) (Au:d.1=2->∀e∈d.2,0<=e.2.2):
  CallsIn F n Tryz.prog 117 #[.pointer (some ⟨P,0,none⟩),.int .i64 b] w fun e w'=>e=.returned (.tuple #[])/\∃ρ' J',St w' ρ' P (if cu f b=1 then gW A b else A) (letGo f b) J'/\Mv (fun _=>False) w ρ w' ρ'/\JS 11 f J (letGo f b) J'/\Sz (K+10) (letGo f b):=by
 have pj:1<=n:=by omega
 have y:b<f.c.length:=j.lt b d hb;have Cq:(b:Int) <(f.c.length:Int):=by omega
 have gd:d.2.length<=10:=j.ai b d hb;obtain⟨ja,jp,jj,E,hJ⟩:=id h;obtain⟨m3,m4,m5,m7⟩:=E.cells;have kq:=E.count y;have Dp:=E.hP.lt;have av:=E.hc.lt;refine callsIn_of_wp_marks Tryz.func117 rfl (qg _) ?_ dq;simp only[Tryz.ntmps117,List.size_toArray,List.length_cons,List.length_nil,Nat.reduceAdd,Nat.reduceSub,Array.replicate_succ,Array.replicate_zero,List.push_toArray,List.append_toArray,List.nil_append,List.cons_append];have fe:Bl w (w.alloc (.cells #[.pointer (some ⟨P,0,none⟩)] 61)):=(bQ _ w).alloc (nR _) _;have cg:=h.below fe;have ix:=Boxed.new w 61 (.pointer (some ⟨P,0,none⟩));have ez:(w.alloc (.cells #[.pointer (some ⟨P,0,none⟩)] 61)).heap.size=w.heap.size+1:=by simp
 by_cases I:cu f b=1
 ·have hL:letGo f b=freeB f b:=by unfold letGo;rw[if_pos I]
  rw[if_pos I,hL];rw[I]at kq;gi_wp2_with fail;refine(hW (aLR _ ρ P A f J b cg j (by omega) y)).mono ?_;rintro e s ⟨rfl,ρ2,G,C⟩;gi_wp2;refine⟨.tuple #[],by simp[results,Tryz.f117,go_sem],rfl,ρ2,_,G,(Mv.aa fe).trans C (fun _ _ e=>e),(JS.save y).trans (JS.freeB Tch.saved) |>.up (by omega),?_⟩;exact((j.setC b (v:=0) (by omega) (by have:=j.cb b;omega)).noN b).up (by omega)
 ·rw[if_neg I,aFV I hb]
  gi_wp2_with fail
  refine(hW (mE _ ρ P A f J b cg j y (by omega))).mono ?_;rintro e s ⟨rfl,ρ2,G,C,AL,-⟩;obtain⟨ja2,jp2,jj2,iy,pt⟩:=id G;obtain⟨n3,n4,n5,n7⟩:=iy.cells;have KD:=iy.count y;have KZ:s.frozen? ⟨A.c,b,none⟩=false:=iy.hc.frozen b;have gi:Boxed s w.heap.size 61 (.pointer (some ⟨P,0,none⟩)):=(C.ae.block _ ix.lt (fun e=>e.elim (fun e=>e (Nat.eq_zero_of_not_pos fun q=>absurd (E.own _ (by omega)) (Nat.lt_irrefl _))) (fun e=>e))).trans ix;have RH:=gi.cell;obtain⟨db,Fc⟩:=G.setC (b:=b) y (cu f b-1);obtain⟨ja3,jp3,jj3,N,uo⟩:=id db;have sa:=j.cb b;have yc:IntKind.i64.wrap (cu f b-1)=cu f b-1:=IntWalk.i64_in _ ⟨by omega,by omega⟩;obtain⟨q,hφ,yg,ye,L,hN⟩:=N.nd b d hb;have g8:=N.hm.lookup b (by have:=j.al;omega);rw[hφ]at g8;have o3:(s.setCell ⟨A.c,b,none⟩ (.int .i64 (cu f b-1))).cell? ⟨P,3,none⟩=some (.map (some A.m)):=N.cells.m3;have aw:w.heap.size≠A.c:=by omega
  have ld:Boxed (s.setCell ⟨A.c,b,none⟩ (.int .i64 (cu f b-1))) w.heap.size 61 (.pointer (some ⟨P,0,none⟩)):=(aY _ _ aw).trans gi;have RI:=ld.cell;generalize Cm:s.setCell ⟨A.c,b,none⟩ (.int .i64 (cu f b-1))=i at *;simp only[eV,Option.map_some]at g8;gi_wp2_with (gi_at_call 38;refine(kW F (n-1) (qg _) dq _ _).mono ?_;rintro e w' ⟨rfl,rfl⟩);have Yz:w.heap.size+1<=s.heap.size:=by have:=C.ae.size;omega
  have Y1:i.heap.size=s.heap.size:=by rw[<-Cm];exact cT (g:=A.c) [_] s b
  have TP:ρ2 w.heap.size=0:=by rw[C.br _ (by omega) (fun e=>e)];exact Nat.eq_zero_of_not_pos fun q=>absurd (E.own _ (by omega)) (Nat.lt_irrefl _)
  have Z8:ρ2 i.heap.size=0:=Nat.eq_zero_of_not_pos fun q=>absurd (N.own _ (by omega)) (Nat.lt_irrefl _);have FX:Mv (fun _=>False) w ρ i ρ2:=((Mv.aa fe).trans C (fun _ _ e=>e)).trans Fc (fun _ _ e=>e);have Qk:JS 1 f J (setC f b (cu f b-1)) (J++[(b,cu f b,f.n b)]):=(JS.save y).trans (JS.setC _ Tch.saved);have Z:Bl i (i.alloc (.cells #[.pointer (some ⟨q,0,none⟩)] 93)):=(bQ _ i).alloc (nR _) _;have ax:=db.below Z;have T:=hN.below Z;have lh:Boxed (i.alloc (.cells #[.pointer (some ⟨q,0,none⟩)] 93)) w.heap.size 61 (.pointer (some ⟨P,0,none⟩)):=ld.alloc _;have DN:IsC (i.alloc (.cells #[.pointer (some ⟨q,0,none⟩)] 93)) i.heap.size #[.pointer (some ⟨q,0,none⟩)] 93:=IsC.new _ _ _;have BJ:Mv (fun _=>False) w ρ (i.alloc (.cells #[.pointer (some ⟨q,0,none⟩)] 93)) ρ2:=FX.trans (Mv.aa Z) (fun _ _ e=>e);have Gw:(i.alloc (.cells #[.pointer (some ⟨q,0,none⟩)] 93)).heap.size=i.heap.size+1:=by simp
  have YP:A.m<i.heap.size:=N.hm.lt;clear g8 o3 RI RH KZ KD n3 n4 n5 n7 iy pt hN ld gi db uo FX Z Fc C G AL;generalize M8:i.alloc (.cells #[.pointer (some ⟨q,0,none⟩)] 93)=O at *;have DZ:q<O.heap.size:=T.box.lt;refine jM dq pj (gf:=63) (lb:=#[.pointer (some ⟨i.heap.size,0,none⟩)]) rfl (qg _) (enters_of Tryz.func63 (by kernel_rfl) rfl)
   (jX F (n-1) (qg _) dq (by omega) i.heap.size q d (A.α b) L gd Au O DN T) KpC.trans (KpC.put DN.lt DZ (fun g e=>(T.arr g e).1.lt)) (bQ _ _) rfl
   (fun a W=>(∃ρ1 o,St W ρ1 P A (iI f b a) o/\Mv (fun _=>False) O ρ2 W ρ1/\JS (1+a.length) f J (iI f b a) o)/\Boxed W w.heap.size 61 (.pointer (some ⟨P,0,none⟩)))
   ?_ ⟨⟨ρ2,_,ax,Mv.refl _ _ _,Qk⟩,lh⟩ ?_ ?_
  ·refine OwnFrom.and (fun a X Y row hs hg hr=>?_) ((boxed_own _ _ _).from _)
   obtain⟨ρ1,o,z,t,B⟩:=hs;exact⟨ρ1,o,z.own hg fun r e=>⟨by have:=(hr r e).1;omega,(hr r e).2⟩,t.own hg fun r e=>(hr r e).1,B⟩
  ·intro l a x W hi me
   gi_wp2
   refine⟨trivial,?_⟩;clear hi;rintro W ⟨⟨ρ1,o,z,t,B⟩,H⟩;have Y9:x∈kids d:=me.subset (by simp);have Y8:x<f.c.length:=qk x Y9;have sx:a.length+1<=10:=by have:=me.length_le;have:=sP d;simp at *;omega
   have Vf:Sz (K+a.length) (iI f b a):=j.el ff a;have U:x <(iI f b a).c.length:=by rw[aAA];exact Y8
   have o9:=H.cell;gi_wp2_with fail;refine⟨fun _=>by omega,(CallsIn.inRound l (hW (mE _ ρ1 P A (iI f b a) o x z Vf U (by have:=B.len;omega)))).mono ?_⟩;rintro e u ⟨rfl,ρ3,de,oa,AL,AI⟩;obtain⟨ja5,jp5,jj5,S,FV⟩:=id de;obtain⟨n3,n4,n5,n7⟩:=S.cells;rw[aAA]at n4;have Xj:=S.count U;have NY:u.frozen? ⟨A.c,x,none⟩=false:=S.hc.frozen x;have LE:∀k,k<O.heap.size->ρ1 k=ρ2 k:=fun k p=>t.br k p fun e=>e;have Sx:ρ1 w.heap.size=0:=by rw[LE _ (by omega)];exact TP
   have sw:Boxed u w.heap.size 61 (.pointer (some ⟨P,0,none⟩)):=(AI.block _ H.lt (by rw[Sx];omega)).trans H;have XZ:=sw.cell;have Pb:(x:Int) <(f.c.length:Int):=by omega
   have Xi:=Vf.cb x;have yc:IntKind.i64.wrap (cu (iI f b a) x+1)=cu (iI f b a) x+1:=IntWalk.i64_in _ ⟨by omega,by omega⟩;obtain⟨M,Ui⟩:=de.setC (b:=x) U (cu (iI f b a) x+1);rw[<-pP]at M;have V:JS (1+a.length+1+0) f J (iI f b (a++[x])) (o++[(x,cu (iI f b a) x,(iI f b a).n x)]):=by
    rw[pP];exact(B.trans (JS.save U)).trans (JS.setC _ Tch.saved)
   have xo:KpC i.heap.size q (A.α b) W (u.setCell ⟨A.c,x,none⟩ (.int .i64 (cu (iI f b a) x+1))):=by
    have H4:ρ1 A.c=4:=by obtain⟨_,_,_,hh,_⟩:=z;exact hh.rc
    have p:∀k,k<O.heap.size->ρ2 k≠1->ρ2 k≠6->ρ2 k≠4->(u.setCell ⟨A.c,x,none⟩ (.int .i64 (cu (iI f b a) x+1))).heap[k]?=W.heap[k]?:=fun k p e1 e2 e3=>by
     rw[aY u _ (fun e=>e3 (by rw[<-LE k p,e,H4])),AI.block k (lL p t.ae.size) (by rw[LE k p];omega)]
    refine⟨lT AI.size (Nat.le_of_eq (cT (g:=A.c) [_] u x).symm),p _ DN.lt (by omega) (by omega) (by omega),p q DZ ?_ ?_ ?_,fun g e=>p g (T.arr g e).1.lt ?_ ?_ ?_⟩
    ·rw[yg];unfold cJ;omega
    ·rw[yg];unfold cJ;omega
    ·rw[yg];unfold cJ;omega
    ·rw[ye g e];unfold cG;omega
    ·rw[ye g e];unfold cG;omega
    ·rw[ye g e];unfold cG;omega
   have rf:Boxed (u.setCell ⟨A.c,x,none⟩ (.int .i64 (cu (iI f b a) x+1))) w.heap.size 61 (.pointer (some ⟨P,0,none⟩)):=(aY _ _ aw).trans sw;have Q:=(t.trans oa (fun _ _ e=>e)).trans Ui (fun _ _ e=>e);have HF:=aA (aI M (aI V (aI xo (aI rf Q))));clear M V xo rf Q Ui z t B de oa S FV H sw;gi_wp2;obtain⟨M,V,xo,rf,Q⟩:=HF.out;exact⟨(AL.trans (KeepsOthers.setCell _ _ _)).from _,xo,⟨ρ3,_,M,Q,V.up (by simp only[lP,List.length_cons,List.length_nil];omega)⟩,rf⟩
  ·rintro D W hD ⟨⟨ρ1,o,z,t,B⟩,H⟩ hK
   gi_wp2
   have bo:W.grownBy (W.putObj D (.deferred none)) (some D):=grownBy_putObj' W D _;refine⟨by simp,.inl ⟨_,_,rfl,run_takeDeferred hK,?_⟩⟩;have m0:=sP d;refine⟨.tuple #[],by simp[results,Tryz.f117,go_sem],rfl,ρ1,o,z.own bo fun r e=>?_,?_,B.up (by omega),(j.el ff (kids d)).up (by omega)⟩
   ·cases e;exact⟨by omega,_,hK,rfl⟩
   ·exact(BJ.trans t (fun _ _ e=>e)).own bo fun r e=>by cases e;have:=BJ.ae.size;omega
theorem oO{K:Int}(w:World)(ρ:Nat->Nat)(P:Nat)(A:Adr)(f:fZ)(J:List aR)(b:Nat)(d:Nd)(h:St w ρ P A f J)(k:Sz K f)(i:K<=900000)(l:J.length<=800000)(j:f.n b=some d)(g:1<=cu f b)(m:∀c∈kids d,c<f.c.length)(a:d.1=2->∀e∈d.2,0<=e.2.2):
  Calls Tryz.prog 117 #[.pointer (some ⟨P,0,none⟩),.int .i64 b] w fun e w'=>e=.returned (.tuple #[])/\∃ρ' J',St w' ρ' P (if cu f b=1 then gW A b else A) (letGo f b) J'/\Mv (fun _=>False) w ρ w' ρ'/\JS 11 f J (letGo f b) J'/\Sz (K+10) (letGo f b):=
 (callsIn_wide (n:=5)).1 (aJE Fence.wide 5 (fun h=>callsIn_wide.2 h) (fun _=>trivial) rfl (nR _) w ρ P A f J b d h k i l j g m a)
end Go.Proofs.YtmpagpeenjddgaaGreat
namespace Go.Proofs.YtmpagpeenjddgaaGreat
open Go.RowKit Fo
theorem aGJ:∀(es:List E3) (i j:Nat) (e':E3) (v:Value),i<es.length->j<3->aJ e'=(aJ (es.getD i e0)).set j v->(cC es).setIfInBounds (i*3+j) v=cC (es.set i e'):=by
 have key:∀(es:List E3) (i j:Nat) (e':E3) (v:Value),i<es.length->j<3->aJ e'=(aJ (es.getD i e0)).set j v->(es.flatMap aJ).set (i*3+j) v=(es.set i e').flatMap aJ:=by
  intro es;induction es with
  | nil=>intro i j e' v b;simp at b
  | cons e es ih=>
   intro i j e' v b c a;have d:(aJ e).length=3:=rfl;cases i with
   | zero=>
    simp only[List.getD_cons_zero]at a;simp only[List.flatMap_cons,List.set_cons_zero,Nat.zero_mul,Nat.zero_add];rw[List.set_append_left _ _ (by rw[d];exact c),a]
   | succ i=>
    simp only[List.getD_cons_succ]at a;simp only[List.flatMap_cons,List.set_cons_succ];rw[List.set_append_right _ _ (by rw[d];omega),d,show(i+1)*3+j-3=i*3+j by omega,ih i j e' v (by simpa using b) c a]
 intro es i j e' v b c a;unfold cC;rw[<-key es i j e' v b c a];simp
theorem aJT(l:List (Int×Int))(t:Nat)(q:Int)(ht:t<l.length):(cZ l).setIfInBounds (t*2+1) (.int .i64 q)=cZ (l.set t ((l.getD t (0,0)).1,q)):=by
 have key:∀(l:List (Int×Int)) (t:Nat),t<l.length->(l.flatMap aU).set (t*2+1) (.int .i64 q)=(l.set t ((l.getD t (0,0)).1,q)).flatMap aU:=by
  intro l;induction l with
  | nil=>intro t ht;simp at ht
  | cons e l ih=>
   intro t ht;have a:(aU e).length=2:=rfl;cases t with
   | zero=>simp[aU]
   | succ t=>
    simp only[List.flatMap_cons,List.set_cons_succ,List.getD_cons_succ];rw[List.set_append_right _ _ (by rw[a];omega),a,show(t+1)*2+1-2=t*2+1 by omega,ih t (by simpa using ht)]
 unfold cZ;rw[<-key l t ht];simp
variable {w w' : World} {ρ : Nat -> Nat} {P : Nat} {A : Adr} {f : fZ} {J : List aR} {jv : Value}
def hZ(A:Adr):Fo.Loc->Addr->Prop
 | .inl t,p=>p=⟨A.ra,t*2+1,none⟩
 | .inr (b,i),p=>∃g,A.α b=some g/\p=⟨g,i*3+2,none⟩
theorem aM.cp{q g:Nat}{k:Int}{es junk:List E3}(h:aM w q (k,es) (Option.some g) junk){i j:Nat}{e':E3}{v:Value}(b:i<es.length)(d:j<3)(he:aJ e'=(aJ (es.getD i e0)).set j v):aM (w.setCell ⟨g,i*3+j,none⟩ v) q (k,es.set i e') (Option.some g) junk:=by
 obtain⟨c,a⟩:=h.arr g rfl;refine⟨by simpa using h.box.set_ne (p:=⟨g,i*3+j,none⟩) v (Ne.symm a),fun g' e=>?_,fun e=>(by cases e),by simpa using h.small⟩;cases e;refine⟨?_,a⟩;have:=c.set (i*3+j) v;rw[aGJ _ i j e' v (by simp;omega) d (by
  rw[he,gD,gD,List.getElem?_append_left b])]at this
 rw[List.set_append_left _ _ b]at this;exact this
theorem aGH(h:Rp w ρ P A f jv){b:Nat}{d:Nd}(c:f.n b=some d):jL ρ (A.α b) b=ρ:=by
 obtain⟨q,g,i,a,_⟩:=h.nd b d c;funext k;by_cases e:A.α b=some k
 ·simp[jL,e,a k e]
 ·exact xS e
theorem aET(A:Adr)(b:Nat):dQ A b (A.α b)=A:=by
 have:upd A.α b (A.α b)=A.α:=funext fun x=>by by_cases e:x=b<;>simp[upd,e]
 unfold dQ;rw[this]
theorem St.aw(h:St w ρ P A f J){b q:Nat}{d d':Nd}(a:f.n b=some d)(j:A.φ b=some q){junk':List E3}(k:Frm (fun x=>x=q\/A.α b=some x) w w')(c:aM w' q d' (A.α b) junk'):St w' ρ P A (setN f b d') J/\Mv (fun _=>False) w ρ w' ρ:=by
 obtain⟨_,_,_,i,_⟩:=id h;have:=h.node a j k c (fun g e=>.inl e);rw[aGH i a,aET]at this;exact this
theorem St.ah(h:St w ρ P A f J){b:Nat}{d:Nd}(l:f.n b=some d):∃q junk,A.φ b=some q/\ρ q=cJ b/\(∀g,A.α b=some g->ρ g=cG b)/\aM w q d (A.α b) junk:=by
 obtain⟨_,_,_,k,_⟩:=h;obtain⟨q,a,c,e,j,i⟩:=k.nd b d l;exact⟨q,j,a,c,e,i⟩
theorem St.b8(h:St w ρ P A f J)(l:IC f){L:Fo.Loc}(m:dT f L){p:Addr}(r:hZ A L p):w.cell? p=some (.int .i64 (bK f L))/\w.frozen? p=false:=by
 obtain⟨_,_,_,n,_⟩:=id h;cases L with
 | inl t=>
  subst r;have ht:t<f.r.length:=m;have d:f.r.getD t (0,0)∈f.r:=by rw[gD,gE ht];exact List.getElem_mem _
  refine⟨?_,n.hr.frozen _⟩;rw[n.hr.cell,(lN (f.r++A.rj) (i:=t) (by simp;omega)).2];have j:(f.r++A.rj).getD t (0,0)=f.r.getD t (0,0):=by rw[gD,List.getElem?_append_left ht,<-gD]
  rw[j];simp only[bK];have:=(l.rb _ d).1;rw[show(((f.r.getD t (0,0)).2.toNat:Nat):Int)=(f.r.getD t (0,0)).2 by omega]
 | inr s=>
  obtain⟨b,i⟩:=s;obtain⟨g,z,rfl⟩:=r;obtain⟨D,es,c,o⟩:=m;obtain⟨q,a,j,B,C,k⟩:=h.ah c;rw[z]at k;have e:=(k.arr g rfl).1;refine⟨?_,e.frozen _⟩;have v:i <(es++a).length:=by simp;omega
  rw[(bJ e v).2.2];have u:(es++a).getD i e0=es.getD i e0:=by rw[gD,List.getElem?_append_left o,<-gD]
  simp only
  rw[u];simp only[bK,aE c,ch];have d:es.getD i e0∈es:=by rw[gD,gE o];exact List.getElem_mem _
  have:=l.kb b _ c
  rcases this with x | ⟨_,_,y⟩
  ·simp at x
  ·have:=(y _ d).1
   rw[show(((es.getD i e0).2.2.toNat:Nat):Int)=(es.getD i e0).2.2 by omega]
theorem St.bP(h:St w ρ P A f J){L:Fo.Loc}(s:dT f L){p:Addr}(u:hZ A L p)(q:Nat):St (w.setCell p (.int .i64 (q:Int))) ρ P A (setL f L q) J/\Mv (fun _=>False) w ρ (w.setCell p (.int .i64 (q:Int))) ρ:=by
 cases L with
 | inl t=>
  subst u;have ht:t<f.r.length:=s;have j:ρ A.ra=2:=by obtain⟨_,_,_,D,_⟩:=h;exact D.rr
  have k:Frm (fun x=>x=A.ra) w (w.setCell ⟨A.ra,t*2+1,none⟩ (.int .i64 (q:Int))):=Frm.set (S:=fun x=>x=A.ra) w (p:=⟨A.ra,t*2+1,none⟩) rfl _;refine⟨h.of k (fun x e=>by rw[e,j];exact aDX.2) (fun _ _ _=>rfl) fun O a=>?_,k.wide (fun x _ e=>.inl (by rw[e,j];omega)),fun _ _ _=>rfl⟩;have c:∀{x r},ρ x=r->r≠2->¬x=A.ra:=fun {x r} e G q=>G (by rw[<-e,q,j]);refine a.gen (Kp.same a k) (.inl ⟨c a.rP (by omega),?_⟩) (.inr ⟨?_,j⟩) (.inl ⟨c a.rm (by omega),rfl⟩) rfl (.inl ⟨c a.rc (by omega),rfl⟩) rfl (.inl ⟨c a.rd (by omega),rfl,rfl⟩) (fun x d H=>.inl ⟨H,rfl,rfl,fun y I=>?_⟩) a.no (by simpa [setL] using a.rs) a.ds
  ·simp[dG,setL]
  ·have:=a.hr.set (t*2+1) (.int .i64 (q:Int))
   rw[aJT _ t q (by simp;omega)]at this;have m:(f.r++A.rj).getD t (0,0)=f.r.getD t (0,0):=by rw[gD,List.getElem?_append_left ht,<-gD]
   rw[m,List.set_append_left _ _ ht]at this;exact this
  ·rcases I with e | e
   ·exact c e (by unfold cJ;omega)
   ·exact c e (by unfold cG;omega)
 | inr B=>
  obtain⟨b,i⟩:=B;obtain⟨g,n,rfl⟩:=u;obtain⟨N,es,l,F⟩:=s;obtain⟨Q,z,m,K,M,o⟩:=h.ah l;rw[n]at o;have E:=o.cp (v:=.int .i64 (q:Int)) (e':=((es.getD i e0).1,(es.getD i e0).2.1,(q:Int))) F (by omega:2<3) (by simp[aJ]);have:=h.aw (w':=w.setCell ⟨g,i*3+2,none⟩ (.int .i64 (q:Int))) l m (Frm.set w (p:=⟨g,i*3+2,none⟩) (.inr n) _) (by rw[n];exact E);have C:setL f (.ai b i) q=setN f b (2,es.set i ((es.getD i e0).1,(es.getD i e0).2.1,(q:Int))):=by simp[setL,setE,aE l]
  rw[C];exact this
end Go.Proofs.YtmpagpeenjddgaaGreat
namespace Go.Proofs.YtmpagpeenjddgaaGreat
open Go.RowKit Fo
variable{p:Addr}{A B:Adr}{L:Fo.Loc}{K:Int}{P b:Nat}{ρ:Nat->Nat}{X Y:Nat->Prop}{d:Nd}{w:World}{f:fZ}
structure AdS(X:Nat->Prop)(A A':Adr):Prop where
 ra:A'.ra=A.ra
 rj:A'.rj=A.rj
 m:A'.m=A.m
 c:A'.c=A.c
 d:A'.d=A.d
 dj:A'.dj=A.dj
 tv:A'.tv=A.tv
 φ:∀x,¬X x->A'.φ x=A.φ x
 α:∀x,¬X x->A'.α x=A.α x
theorem AdS.refl(X:Nat->Prop)(A:Adr):AdS X A A:=⟨rfl,rfl,rfl,rfl,rfl,rfl,rfl,fun _ _=>rfl,fun _ _=>rfl⟩
theorem AdS.trans{C:Adr}(h:AdS X A B)(k:AdS Y B C):AdS (fun x=>X x\/Y x) A C:=
 ⟨k.ra.trans h.ra,k.rj.trans h.rj,k.m.trans h.m,k.c.trans h.c,k.d.trans h.d,k.dj.trans h.dj,k.tv.trans h.tv,fun x a=>(k.φ x fun q=>a (.inr q)).trans (h.φ x fun q=>a (.inl q)),fun x a=>(k.α x fun q=>a (.inr q)).trans (h.α x fun q=>a (.inl q))⟩
theorem AdS.up(h:AdS X A B)(b:∀x,X x->Y x):AdS Y A B:={h with φ:=fun x a=>h.φ x fun q=>a (b x q),α:=fun x a=>h.α x fun q=>a (b x q)}
theorem AdS.put(A:Adr)(b q:Nat)(a:Option Nat):AdS (fun x=>x=b) A (dA A b q a):=⟨rfl,rfl,rfl,rfl,rfl,rfl,rfl,fun x c=>aC _ _ c,fun x c=>aC _ _ c⟩
theorem AdS.del(A:Adr)(b:Nat):AdS (fun x=>x=b) A (gW A b):=⟨rfl,rfl,rfl,rfl,rfl,rfl,rfl,fun x a=>aC _ _ a,fun _ _=>rfl⟩
theorem AdS.arr(A:Adr)(b:Nat)(a:Option Nat):AdS (fun x=>x=b) A (dQ A b a):=⟨rfl,rfl,rfl,rfl,rfl,rfl,rfl,fun _ _=>rfl,fun x c=>aC _ _ c⟩
structure Dn(k:Nat)(X:Nat->Prop)(w:World)(ρ:Nat->Nat)(P:Nat)(A:Adr)(f:fZ)(J:List aR)(w':World)(ρ':Nat->Nat)(A':Adr)(g:fZ)(J':List aR):Prop where
 st:St w' ρ' P A' g J'
 mv:Mv (fun _=>False) w ρ w' ρ'
 js:JS k f J g J'
 ad:AdS X A A'
structure Pk(k:Nat)(w:World)(ρ:Nat->Nat)(P:Nat)(f:fZ)(J:List aR)(e:Ending)(w':World):Prop where
 e:e=aCH
 ex:∃ρ' A' g J',St w' ρ' P A' g J'/\Mv (fun _=>False) w ρ w' ρ'/\JS k f J g J'
theorem Dn.below{k:Nat}{w1 w2:World}{ρ1:Nat->Nat}{A1:Adr}{g:fZ}{J J1:List aR}(h:Dn k X w ρ P A f J w1 ρ1 A1 g J1)(a:Bl w1 w2):Dn k X w ρ P A f J w2 ρ1 A1 g J1:=
 ⟨h.st.below a,h.mv.trans (Mv.aa a) (fun _ _ e=>e),h.js,h.ad⟩
theorem below_drewN(w:World)(n:Nat):Bl w (w.drewN n):=⟨rfl,rfl,rfl,nR _,fun _ _=>rfl⟩
structure ShP(w:World)(ρ:Nat->Nat)(P:Nat)(A:Adr)(f:fZ)(J:List aR)(L:Fo.Loc)(K:Int)(e:Ending)(w':World):Prop where
 no:shadow f L=none->Pk 0 w ρ P f J e w'
 yes:∀g c,shadow f L=some (g,c)->∃ρ' A' J' q,e=.returned (.pointer (some ⟨q,0,none⟩))/\A'.φ c=some q/\Dn 12 (fun x=>x=c\/x=bK f L) w ρ P A f J w' ρ' A' g J'/\Tch c J'/\Sz (K+10) g
theorem aED(h:IC f)(a:f.n b=some d):d.1=2->∀e∈d.2,0<=e.2.2:=fun g e c=>by
 rcases h.kb b d a with q | ⟨_,_,q⟩
 ·omega
 ·exact(q e c).1
theorem aJH(e:IC f)(g:dT f L):∃d,f.n (bK f L)=some d:=by
 cases L with
 | inl t=>
  have ht:t<f.r.length:=g;have k:f.r.getD t (0,0)∈f.r:=by rw[gD,gE ht];exact List.getElem_mem _
  exact e.ao k
 | inr h=>
  obtain⟨b,i⟩:=h;obtain⟨l,es,a,j⟩:=g;refine e.af a (c:=bK f (.ai b i)) ?_;simp only[bK,aE a];exact gR j
theorem jS(c:dT f L)(q:Nat):bK (setL f L q) L=q/\dT (setL f L q) L:=by
 cases L with
 | inl t=>
  have ht:t<f.r.length:=c;refine⟨?_,by show t <(f.r.set t _).length;simpa using ht⟩;show((f.r.set t ((f.r.getD t (0,0)).1,(q:Int))).getD t (0,0)).2.toNat=q
  rw[bB _ _ _ _ _ ht,if_pos rfl];simp
 | inr g=>
  obtain⟨b,i⟩:=g;obtain⟨h,es,e,d⟩:=c;have a:setL f (.ai b i) q=setN f b (2,es.set i ((es.getD i e0).1,(es.getD i e0).2.1,(q:Int))):=by simp[setL,setE,aE e]
  have j:(setL f (.ai b i) q).n b=some (2,es.set i ((es.getD i e0).1,(es.getD i e0).2.1,(q:Int))):=by rw[a];exact aD _ _ _
  refine⟨?_,by rw[a];exact⟨h,_,aD _ _ _,by simpa using d⟩⟩;simp only[bK,aE j];rw[bB _ _ _ _ _ d,if_pos rfl];simp[ch]
theorem zW(c:dT f L){q:Nat}(k:f.n q=none)(d:Nd):dT (takeAt f q d) L:=by
 cases L with
 | inl t=>exact c
 | inr g=>
  obtain⟨b,i⟩:=g;obtain⟨h,es,a,j⟩:=c;refine⟨by simpa [takeAt] using h,es,?_,j⟩;show upd f.n q (some d) b=_
  rw[aC _ _ (fun e=>by rw[e,k]at a;cases a)];exact a
theorem vT(c:dT f L)(h:∀b' i,L=.ai b' i->b'≠b):dT (letGo f b) L/\bK (letGo f b) L=bK f L:=by
 cases L with
 | inl t=>exact⟨by show t <(letGo f b).r.length;rw[dX];exact c,by simp only[bK,dX]⟩
 | inr e=>
  obtain⟨b',i⟩:=e;obtain⟨g,es,a,j⟩:=c;have d:(letGo f b).n b'=some (2,es):=by
   rw[cX];split
   ·rw[aC _ _ (h b' i rfl)];exact a
   ·exact a
  exact⟨⟨by rw[iK];exact g,es,d,j⟩,by simp only[bK,aE d,aE a]⟩
theorem St.bz{J:List aR}(h:St w ρ P A f J)(k:dT f L)(m:hZ A L p):∃v,w.cell? p=some (.int .i64 v)/\w.frozen? p=false/\(0<=v->v=(bK f L:Int)):=by
 obtain⟨_,_,_,l,_⟩:=id h;cases L with
 | inl t=>
  subst m;have ht:t<f.r.length:=k;refine⟨((f.r++A.rj).getD t (0,0)).2,?_,l.hr.frozen _,?_⟩
  ·rw[l.hr.cell,(lN (f.r++A.rj) (i:=t) (by simp;omega)).2]
  ·have e:(f.r++A.rj).getD t (0,0)=f.r.getD t (0,0):=by rw[gD,List.getElem?_append_left ht,<-gD]
   rw[e];intro q;simp only[bK];omega
 | inr n=>
  obtain⟨b,i⟩:=n;obtain⟨g,r,rfl⟩:=m;obtain⟨y,es,d,s⟩:=k;obtain⟨q,a,e,u,x,j⟩:=h.ah d;rw[r]at j;have c:=(j.arr g rfl).1;refine⟨_,(bJ c (i:=i) (by simp;omega)).2.2,c.frozen _,?_⟩;have o:(es++a).getD i e0=es.getD i e0:=by rw[gD,List.getElem?_append_left s,<-gD]
  simp only
  rw[o];intro q;simp only[bK,aE d,ch];omega
theorem xI{A':Adr}(h:AdS X A A')(a:hZ A L p)(f:∀b i,L=.ai b i->¬X b):hZ A' L p:=by
 cases L with
 | inl t=>have c:p=⟨A.ra,t*2+1,none⟩:=a;show p=⟨A'.ra,_,none⟩;rw[h.ra];exact c
 | inr d=>
  obtain⟨b,i⟩:=d;obtain⟨g,j,e⟩:=a;exact⟨g,by rw[h.α b (f b i rfl)];exact j,e⟩
theorem Sz.takeAt(h:Sz K f)(a:1<=K)(c:b<f.c.length)(hd:d.2.length<=10):Sz K (takeAt f b d):=(h.setN c hd).setC b (v:=1) (by omega) a
theorem Sz.setL(h:Sz K f)(d:dT f L)(q:Nat):Sz K (setL f L q):=by
 cases L with
 | inl t=>exact h.of rfl rfl h.cb fun _ _ q=>.inl q
 | inr c=>
  obtain⟨b,i⟩:=c;obtain⟨e,es,a,g⟩:=d;have:=h.ai b _ a;exact h.setN e (by simpa [setE,aE a] using this)
theorem iO(w:World)(ρ:Nat->Nat)(P:Nat)(A:Adr)(f:fZ)(J:List aR)(L:Fo.Loc)(p:Addr)(h:St w ρ P A f J)(y:IC f)(m:Sz K f)(uq:1<=K)(hK:K<=800000)(lm:J.length<=700000)(D:dT f L)(hp:hZ A L p)(sf:∀b i,L=.ai b i->Tch b J):
  Calls Tryz.prog 97 #[.pointer (some ⟨P,0,none⟩),.pointer (some p)] w (ShP w ρ P A f J L K):=by
 obtain⟨d,l⟩:=aJH y D;obtain⟨li,ws⟩:=h.b8 y D hp;obtain⟨b,s⟩:=eZ (bK f L);rw[s]at l li;have eX:b<f.c.length:=m.lt b d l;have Cq:(b:Int) <(f.c.length:Int):=by omega
 have Xc:(b:Int) <(f.m.length:Int):=by have:=m.m;omega
 obtain⟨ja,jp,jj,hR,hJ⟩:=id h;obtain⟨m3,m4,m5,m7⟩:=hR.cells;have kq:=hR.count eX;have Cr:w.cell? ⟨A.d,b,none⟩=some (.int .i64 (co f b)):=aNG hR.hd (by rw[m.m];exact eX);obtain⟨q,T,hφ,yg,ye,hN⟩:=h.ah l;go_enter Tryz.func97,Tryz.ntmps97;by_cases Z:own f b
 ·have v:shadow f L=some (f,b):=by unfold shadow;rw[s,if_pos Z]
  obtain⟨o1,o2⟩:=Z;rw[o1]at kq;rw[o2]at Cr;go_wp2_with fail;refine(mE _ ρ P A f J b h m eX (by omega)).mono ?_;rintro e w2 ⟨rfl,ρ2,G,mf,-,-⟩;obtain⟨ja2,jp2,jj2,iy,pt⟩:=id G;obtain⟨n3,n4,n5,n7⟩:=iy.cells;have g8:=iy.hm.lookup b (by have:=m.al;omega);rw[hφ]at g8;simp only[eV,Option.map_some]at g8;go_wp2;go_ret;refine⟨fun q=>(by rw[v]at q;cases q),fun g c r=>?_⟩;rw[v]at r;cases r;exact⟨ρ2,A,_,q,rfl,hφ,⟨G,mf,(JS.save eX).up (by omega),AdS.refl _ _⟩,Tch.saved,m.up (by omega)⟩
 ·have g8:=hR.hm.lookup b (by have:=m.al;omega)
  rw[hφ]at g8;simp only[eV,Option.map_some]at g8;have gj:(cu f b≠1)\/(cu f b=1/\co f b≠0):=by
   by_cases c1:cu f b=1
   ·exact .inr ⟨c1,fun c2=>Z ⟨c1,c2⟩⟩
   ·exact .inl c1
  have HN:=aA hN;have TX:Hid (1<=cu f b):=by have:=y.a1 l;show 1<=cu f b;omega
  have gd:=m.ai b d l;have Fy:∀x,w.heap.size<=x->ρ x=0:=fun x hx=>Nat.eq_zero_of_not_pos fun q=>absurd (hR.own x (by omega)) (by omega);have Le:∀k i,L=.ai k i->k≠b:=fun k i e e'=>by
   subst e;subst e';obtain⟨_,es,o,hi⟩:=D;have hm:bK f (.ai k i)∈kids (2,es):=by simp only[bK,aE o];exact gR hi
   rw[s]at hm;exact y.ag o hm
  have sa:=m.cb b;rcases gj with c1 | ⟨c1,c2⟩
  ·have c1':(cu f b == 1)=false:=by simpa using c1
   go_wp2_with fail
   refine(mQ q d (A.α b) T _ hN gd).mono ?_;rintro e w1 ⟨u,rfl,⟨a,j,j1,rfl,k1,k2,k3⟩,W⟩;have cg:=h.below W;go_wp2_with fail;refine(pC w1 ρ P A f J a d j j1 cg m (by omega) (by omega) k3 (Fy a k1) (fun g e=>Fy g (k2 g e))).mono ?_;intro e w2 Y;by_cases E:aF f=0
   ·obtain⟨rfl,di⟩:=Y.no E
    have v:shadow f L=none:=by unfold shadow;rw[s,if_neg Z,if_pos E]
    exact⟨rfl,fun _=>⟨rfl,ρ,A,f,J,cg.below di,(Mv.aa W).trans (Mv.aa di) (fun _ _ e=>e),JS.refl _ _⟩,fun g c r=>by rw[v]at r;cases r⟩
   ·obtain⟨rfl,ρ2,G,mf,-⟩:=Y.yes E
    have v:shadow f L=some (shadowAt f L (aF f),aF f):=by unfold shadow;rw[s,if_neg Z,if_neg E]
    obtain⟨l1,Q,l3,l4⟩:=aO E;have O:f.n (aF f)=none:=(y.a8.dead _).2 l3;generalize aF f=z at *;have U:b≠z:=fun e=>by rw[e,O]at l;cases l
    have sn:Mv (fun _=>False) w ρ w2 ρ2:=((Mv.aa (X:=fun x=>x=a\/j=some x) (ρ:=ρ) W).trans mf (fun _ _ e=>e)).up fun x hx e=>by
     rcases e with e | e
     ·omega
     ·have:=k2 x e;omega
    have B:=zW D O d;have CQ:hZ (dA A z a j) L p:=xI (AdS.put A z a j) hp fun k i e e'=>by
     subst e;subst e';obtain⟨_,es,o,hi⟩:=D;rw[O]at o;cases o
    obtain⟨v2,jo,lw,-⟩:=G.bz B CQ;obtain⟨db,FX⟩:=G.bP B CQ z;have ww:Sz K (setL (takeAt f z d) L z):=(m.takeAt uq Q gd).setL B z;have Es:(setL (takeAt f z d) L z).n b=some d:=by
     have e1:(takeAt f z d).n b=some d:=by show upd f.n z (some d) b=_;rw[aC _ _ U];exact l
     cases L with
     | inl t=>exact e1
     | inr bi=>obtain⟨k,i⟩:=bi;exact(aC _ _ (Ne.symm (Le k i rfl))).trans e1
    have KL:cu (setL (takeAt f z d) L z) b=cu f b:=by
     unfold cu;rw[bF];exact jP f 1 U
    have uo:JS 1 f J (setL (takeAt f z d) L z) (J++[(z,cu f z,f.n z)]):=((JS.save Q).trans (JS.takeAt d Tch.saved)).trans (JS.setL L z fun k i e=>(JS.save Q).b5 k (sf k i e));have qk:∀c∈kids d,c <(setL (takeAt f z d) L z).c.length:=fun c hc=>by rw[bF];simpa [takeAt] using y.bf l hc
    go_wp2_with fail
    refine(oO _ ρ2 P (dA A z a j) (setL (takeAt f z d) L z) (J++[(z,cu f z,f.n z)]) b d db ww (by omega) (by simp;omega) Es (by rw[KL];exact TX.out) qk (aED y l)).mono ?_;rintro e S ⟨rfl,ρ4,V,C,BJ,M,F⟩;have Rv:letGo (setL (takeAt f z d) L z) b=shadowAt f L z:=by unfold shadowAt;rw[s,aE l]
    have N:=vT (jS B z).2 Le;rw[(jS B z).1]at N;have C7:AdS (fun x=>x=z\/x=b) A (if cu (setL (takeAt f z d) L z) b=1 then gW (dA A z a j) b else dA A z a j):=by
     split
     ·exact(AdS.put A z a j).trans (AdS.del _ b)
     ·exact(AdS.put A z a j).up fun x e=>.inl e
    have tj:(if cu (setL (takeAt f z d) L z) b=1 then gW (dA A z a j) b else dA A z a j).φ z=some a:=by
     split
     ·show upd (upd A.φ z (some a)) b none z=_
      rw[aC _ _ (Ne.symm U),aD]
     ·exact aD _ _ _
    generalize (if cu (setL (takeAt f z d) L z) b=1 then gW (dA A z a j) b else dA A z a j)=H at *;rw[Rv]at C M F N;have Sj:hZ H L p:=xI C7 hp fun k i e e'=>by
     rcases e' with e' | e'
     ·subst e;subst e'
      obtain⟨_,es,o,hi⟩:=D;rw[O]at o;cases o
     ·exact Le k i e e'
    obtain⟨I1,-⟩:=y.shadow D s l l1 Q l3;obtain⟨RQ,Fi⟩:=C.b8 I1 N.1 Sj;rw[N.2]at RQ;obtain⟨ja4,jp4,jj4,mh,JP⟩:=id C;have o3:=mh.cells.m3;have SU:∀n,(Instr.lookup 64 (.map (some H.m)) (.int .i64 z) false).run Tryz.prog (S.drewN n)=.ok (.pointer (some ⟨a,0,none⟩)) (S.drewN n):=fun n=>by
     have:=(mh.hm.of (w':=S.drewN n) rfl).lookup z (by have:=m.al;omega)
     rw[tj]at this;simpa only[eV,Option.map_some] using this
    have R:Dn 12 (fun x=>x=z\/x=b) w ρ P A f J S ρ4 H (shadowAt f L z) V:=⟨C,(sn.trans FX (fun _ _ e=>e)).trans BJ (fun _ _ e=>e),uo.trans M |>.up (by omega),C7⟩;have I:Tch z V:=M.b5 z Tch.saved;have HF:=aA (aI R (aI I F));clear R F I M C BJ uo db FX mf sn mh JP Y G;go_wp2;go_quiet (fail);go_wp2;go_ret;obtain⟨R,I,F⟩:=HF.out;refine⟨fun q=>(by rw[v]at q;cases q),fun g c r=>?_⟩;rw[v]at r;cases r;exact⟨ρ4,H,V,a,rfl,tj,by rw[s];exact R.below (below_drewN _ _),I,F⟩
  ·have c2':(co f b == 0)=false:=by simpa using c2
   rw[c1]at kq;have HC:=aA c1;clear c1;go_wp2_with fail;refine(mQ q d (A.α b) T _ hN gd).mono ?_;rintro e w1 ⟨u,rfl,⟨a,j,j1,rfl,k1,k2,k3⟩,W⟩;have cg:=h.below W;go_wp2_with fail;refine(pC w1 ρ P A f J a d j j1 cg m (by omega) (by omega) k3 (Fy a k1) (fun g e=>Fy g (k2 g e))).mono ?_;intro e w2 Y;by_cases E:aF f=0
   ·obtain⟨rfl,di⟩:=Y.no E
    have v:shadow f L=none:=by unfold shadow;rw[s,if_neg Z,if_pos E]
    exact⟨rfl,fun _=>⟨rfl,ρ,A,f,J,cg.below di,(Mv.aa W).trans (Mv.aa di) (fun _ _ e=>e),JS.refl _ _⟩,fun g c r=>by rw[v]at r;cases r⟩
   ·obtain⟨rfl,ρ2,G,mf,-⟩:=Y.yes E
    have v:shadow f L=some (shadowAt f L (aF f),aF f):=by unfold shadow;rw[s,if_neg Z,if_neg E]
    obtain⟨l1,Q,l3,l4⟩:=aO E;have O:f.n (aF f)=none:=(y.a8.dead _).2 l3;generalize aF f=z at *;have U:b≠z:=fun e=>by rw[e,O]at l;cases l
    have sn:Mv (fun _=>False) w ρ w2 ρ2:=((Mv.aa (X:=fun x=>x=a\/j=some x) (ρ:=ρ) W).trans mf (fun _ _ e=>e)).up fun x hx e=>by
     rcases e with e | e
     ·omega
     ·have:=k2 x e;omega
    have B:=zW D O d;have CQ:hZ (dA A z a j) L p:=xI (AdS.put A z a j) hp fun k i e e'=>by
     subst e;subst e';obtain⟨_,es,o,hi⟩:=D;rw[O]at o;cases o
    obtain⟨v2,jo,lw,-⟩:=G.bz B CQ;obtain⟨db,FX⟩:=G.bP B CQ z;have ww:Sz K (setL (takeAt f z d) L z):=(m.takeAt uq Q gd).setL B z;have Es:(setL (takeAt f z d) L z).n b=some d:=by
     have e1:(takeAt f z d).n b=some d:=by show upd f.n z (some d) b=_;rw[aC _ _ U];exact l
     cases L with
     | inl t=>exact e1
     | inr bi=>obtain⟨k,i⟩:=bi;exact(aC _ _ (Ne.symm (Le k i rfl))).trans e1
    have KL:cu (setL (takeAt f z d) L z) b=cu f b:=by
     unfold cu;rw[bF];exact jP f 1 U
    have uo:JS 1 f J (setL (takeAt f z d) L z) (J++[(z,cu f z,f.n z)]):=((JS.save Q).trans (JS.takeAt d Tch.saved)).trans (JS.setL L z fun k i e=>(JS.save Q).b5 k (sf k i e));have qk:∀c∈kids d,c <(setL (takeAt f z d) L z).c.length:=fun c hc=>by rw[bF];simpa [takeAt] using y.bf l hc
    go_wp2_with fail
    refine(oO _ ρ2 P (dA A z a j) (setL (takeAt f z d) L z) (J++[(z,cu f z,f.n z)]) b d db ww (by omega) (by simp;omega) Es (by rw[KL];exact TX.out) qk (aED y l)).mono ?_;rintro e S ⟨rfl,ρ4,V,C,BJ,M,F⟩;have Rv:letGo (setL (takeAt f z d) L z) b=shadowAt f L z:=by unfold shadowAt;rw[s,aE l]
    have N:=vT (jS B z).2 Le;rw[(jS B z).1]at N;have C7:AdS (fun x=>x=z\/x=b) A (if cu (setL (takeAt f z d) L z) b=1 then gW (dA A z a j) b else dA A z a j):=by
     split
     ·exact(AdS.put A z a j).trans (AdS.del _ b)
     ·exact(AdS.put A z a j).up fun x e=>.inl e
    have tj:(if cu (setL (takeAt f z d) L z) b=1 then gW (dA A z a j) b else dA A z a j).φ z=some a:=by
     split
     ·show upd (upd A.φ z (some a)) b none z=_
      rw[aC _ _ (Ne.symm U),aD]
     ·exact aD _ _ _
    generalize (if cu (setL (takeAt f z d) L z) b=1 then gW (dA A z a j) b else dA A z a j)=H at *;rw[Rv]at C M F N;have Sj:hZ H L p:=xI C7 hp fun k i e e'=>by
     rcases e' with e' | e'
     ·subst e;subst e'
      obtain⟨_,es,o,hi⟩:=D;rw[O]at o;cases o
     ·exact Le k i e e'
    obtain⟨I1,-⟩:=y.shadow D s l l1 Q l3;obtain⟨RQ,Fi⟩:=C.b8 I1 N.1 Sj;rw[N.2]at RQ;obtain⟨ja4,jp4,jj4,mh,JP⟩:=id C;have o3:=mh.cells.m3;have SU:∀n,(Instr.lookup 64 (.map (some H.m)) (.int .i64 z) false).run Tryz.prog (S.drewN n)=.ok (.pointer (some ⟨a,0,none⟩)) (S.drewN n):=fun n=>by
     have:=(mh.hm.of (w':=S.drewN n) rfl).lookup z (by have:=m.al;omega)
     rw[tj]at this;simpa only[eV,Option.map_some] using this
    have R:Dn 12 (fun x=>x=z\/x=b) w ρ P A f J S ρ4 H (shadowAt f L z) V:=⟨C,(sn.trans FX (fun _ _ e=>e)).trans BJ (fun _ _ e=>e),uo.trans M |>.up (by omega),C7⟩;have I:Tch z V:=M.b5 z Tch.saved;have HF:=aA (aI R (aI I F));clear R F I M C BJ uo db FX mf sn mh JP Y G;go_wp2;go_quiet (fail);go_wp2;go_ret;obtain⟨R,I,F⟩:=HF.out;refine⟨fun q=>(by rw[v]at q;cases q),fun g c r=>?_⟩;rw[v]at r;cases r;exact⟨ρ4,H,V,a,rfl,tj,by rw[s];exact R.below (below_drewN _ _),I,F⟩
