import Derived.WideMake
import Derived.Test.YtmpagpeenjddgaaGreatDv0
import Derived.Test.YtmpagpeenjddgaaGreatFo45
set_option maxHeartbeats 9999999
set_option maxRecDepth 99999
set_option linter.all false
namespace Go.Proofs.YtmpagpeenjddgaaGreat
open Go.RowKit Fo
theorem tF{base:Nat}{w:World}{u:Value}{l:List Int}(h:y64.Own base w u l)(b:0<l.length):∃g j,u=sL g 0 l.length (l.length+j.length)/\IsC w g (y64.row (l++j)) 2/\base<=g:=by
 obtain⟨a,j,e,c,d⟩:=h;cases a with
 | none=>have:=(c.nil rfl).1;rw[this]at b;simp at b
 | some g=>exact⟨g,j,e,c.arr g rfl,d g rfl⟩
theorem aEE(w:World):Calls Tryz.prog 9 #[iV 64] w fun e w'=>∃g j,e=.returned (sL g 0 64 (64+j.length))/\IsC w' g (y64.row (z64++j)) 2/\w.heap.size<=g/\Bl w w':=by
 refine(tA 64 (by decide) w).mono ?_;rintro e w' ⟨u,rfl,a,b⟩;obtain⟨g,j,e,c,d⟩:=tF a (by simp);simp only[List.length_replicate]at e;exact⟨g,j,by rw[e],c,d,b⟩
structure EM(w:World)(gb gf gc gs:Nat)(jb jf jc js:List Int)(s:Sg)(wr:World):Prop where
 b:∃bl:List Int,bl.length=64/\IsC wr gb (y64.row (bl++jb)) 2
 f:IsC wr gf (y64.row (s.1++jf)) 2
 c:IsC wr gc (y64.row (s.2.1++jc)) 2
 s:IsC wr gs (y64.row (s.2.2++js)) 2
 ae:Frm (fun k=>k=gc\/k=gs) w wr
section
variable {w : World} {gb gf gc gs : Nat} {jb jf jc js : List Int} {s : Sg} {wr : World}
theorem EM.below(h:EM w gb gf gc gs jb jf jc js s wr){wy:World}(k:Bl wr wy):EM w gb gf gc gs jb jf jc js s wy:=by
 obtain⟨b,c,a⟩:=h.b;exact⟨⟨b,c,a.of (k.block _ a.lt)⟩,h.f.of (k.block _ h.f.lt),h.c.of (k.block _ h.c.lt),h.s.of (k.block _ h.s.lt),h.ae.trans (Frm.aa k)⟩
theorem EM.e1(h:EM w gb gf gc gs jb jf jc js s wr)(b:w.heap.size<=gb)(f:gf≠gb)(g:gc≠gb)(i:gs≠gb){d:Nat}(hd:d<64)(x:Int):EM w gb gf gc gs jb jf jc js s (wr.setCell (aD gb d) (iV x)):=by
 obtain⟨a,c,e⟩:=h.b;exact⟨⟨a.set d x,by simp[c],iH e (by omega) x⟩,h.f.set_ne _ f,h.c.set_ne _ g,h.s.set_ne _ i,h.ae.put _ _ fun q=>absurd q (Nat.not_lt.2 b)⟩
theorem EM.e2(h:EM w gb gf gc gs jb jf jc js s wr)(b:w.heap.size<=gf)(f:gb≠gf)(g:gc≠gf)(i:gs≠gf){d:Nat}(hd:d<s.1.length)(x:Int):EM w gb gf gc gs jb jf jc js (s.1.set d x,s.2) (wr.setCell (aD gf d) (iV x)):=by
 obtain⟨a,c,e⟩:=h.b;exact⟨⟨a,c,e.set_ne _ f⟩,iH h.f hd x,h.c.set_ne _ g,h.s.set_ne _ i,h.ae.put _ _ fun q=>absurd q (Nat.not_lt.2 b)⟩
theorem EM.setC(h:EM w gb gf gc gs jb jf jc js s wr)(e:gb≠gc)(f:gf≠gc)(g:gs≠gc){d:Nat}(hd:d<s.2.1.length)(x:Int):EM w gb gf gc gs jb jf jc js (s.1,s.2.1.set d x,s.2.2) (wr.setCell (aD gc d) (iV x)):=by
 obtain⟨a,b,c⟩:=h.b;exact⟨⟨a,b,c.set_ne _ e⟩,h.f.set_ne _ f,iH h.c hd x,h.s.set_ne _ g,h.ae.put _ _ fun _=>.inl rfl⟩
theorem EM.e3(h:EM w gb gf gc gs jb jf jc js s wr)(e:gb≠gs)(f:gf≠gs)(g:gc≠gs){d:Nat}(hd:d<s.2.2.length)(x:Int):EM w gb gf gc gs jb jf jc js (s.1,s.2.1,s.2.2.set d x) (wr.setCell (aD gs d) (iV x)):=by
 obtain⟨a,b,c⟩:=h.b;exact⟨⟨a,b,c.set_ne _ e⟩,h.f.set_ne _ f,h.c.set_ne _ g,iH h.s hd x,h.ae.put _ _ fun _=>.inr rfl⟩
end
theorem aOV{w:World}{u:Value}{V:List VW}(h:yW.Sl w u V)(f:0<V.length):∃g o c,u=sL g o V.length c/\g<w.heap.size/\(∀g' cs,IsC w g' cs 2->g≠g')/\∀(w':World) (i:Nat),(w'.heap[g]?=w.heap[g]?)->i<V.length->w'.cell? (aD g (o+i*5))=some (iV (V.getD i vz).1)/\w'.cell? (aD g (o+i*5+1))=some (iV (V.getD i vz).2.1)/\w'.cell? (aD g (o+i*5+1+1))=some (iV (V.getD i vz).2.2.1)/\w'.cell? (aD g (o+i*5+1+1+1))=some (iV (V.getD i vz).2.2.2.1)/\w'.cell? (aD g (o+i*5+1+1+1+1))=some (iV (V.getD i vz).2.2.2.2):=by
 obtain⟨g,o,c,rfl,b,a⟩:=aPK h f;refine⟨g,o,c,rfl,b,fun g' cs d=>?_,a⟩;rcases h with⟨e,_⟩ | ⟨l,m,k,xs,e,j,_⟩
 ·cases e
 ·simp only[Value.slice.injEq,sJ,Addr.mk.injEq]at e
  rw[e.1.1];exact j.ne d (by decide)
theorem aOA{W:World}{g i:Nat}{p:Addr}{v x:Value}(a:g≠p.block)(h:W.cell? (aD g i)=some x):(W.setCell p v).drew.cell? (aD g i)=some x:=by
 show(W.setCell p v).cell? (aD g i)=some x
 rw[<-h];unfold World.cell?;rw[aU W v a]
theorem aCG{f:fZ}{H:Int}{V:List VW}(hV:VOK f H V)(vv:Value)(D ou uc a g cc cs:Nat)(jc js C S:List Int)(m:Int)(hB:Bd f.c.length m (z64,C,S))(hm:0<=m/\m<=1000000)(w:World)(hv:yW.Sl w vv V)
  (hu:∀W:World,W.heap[D]?=w.heap[D]?->∀i,i<f.c.length->W.cell? (aD D (ou+i))=some (iV (f.c.getD i 0))) (Fe:D<w.heap.size) (hc:IsC w a (y64.row (C++jc)) 2) (hs:IsC w g (y64.row (S++js)) 2) (h1:D≠a) (h2:D≠g) (h3:a≠g):
  Calls Tryz.prog 11 #[vv,sL D ou f.c.length uc,sL a 0 f.c.length cc,sL g 0 f.c.length cs] w fun e w'=>e=.returned (.bool true)/\IsC w' a (y64.row ((V.foldl edS (z64,C,S)).2.1++jc)) 2/\IsC w' g (y64.row ((V.foldl edS (z64,C,S)).2.2++js)) 2/\Frm (fun k=>k=a\/k=g) w w':=by
 obtain⟨gv,ov,vc,rfl,GB,Kx,Wb⟩:=aOV hv hV.ne;have Z5:=Kx a _ hc;have Z7:=Kx g _ hs;have ap:=hc.lt;have ef:=hs.lt;have Mo:=aA (hB.run hm.1 V);have N:=aA hV;have CZ:=hV.few;have Za:(0:Int) <(V.length:Int):=by have:=hV.ne;omega
 obtain⟨n,HN⟩:∃n,Hid (f.c.length=n):=⟨_,rfl⟩;rw[HN.out]at hu Mo |-;clear hv Kx hV hB;go_enter Tryz.func11,Tryz.ntmps11;go_wp2_with fail;refine(aEE w).mono ?_;rintro e w1 ⟨o,jb,rfl,hb,LC,ao⟩;go_wp2_with fail;refine(aEE w1).mono ?_;rintro e w2 ⟨gf,jf,rfl,hf,AU,be⟩;have Xu:EM w o gf a g jb jf jc js (z64,C,S) w2:=by
  have KQ:=ao.trans (be.mono ao.size);exact⟨⟨z64,by simp[z64],hb.of (be.block _ hb.lt)⟩,hf,hc.of (KQ.block _ hc.lt),hs.of (KQ.block _ hs.lt),Frm.aa KQ⟩
 have d5:=hb.lt;have Sj:w.heap.size<=gf:=lT ao.size AU;clear hb hf hc hs ao be;go_wp2;go_loopw [11,12,13] (fun lf i _ wr=>∃k:Nat,k<=V.length/\i=iV k/\(∃u:Int,lf=iV u/\((u=-1/\∀j,j<k->(V.getD j vz).2.2.1≠1)\/u=H))/\EM w o gf a g jb jf jc js ((V.take k).foldl edS (z64,C,S)) wr) (fun _ i _ _=>V.length -(intOf i).toNat)
 case atStart=>exact⟨0,Nat.zero_le _,rfl,⟨-1,rfl,.inl ⟨rfl,fun j hj=>by omega⟩⟩,Xu⟩
 case round=>
  obtain⟨k,hk,rfl,⟨u,rfl,FL⟩,y⟩:=hrel;by_cases r:k<V.length
  ·have jl:(k:Int) <(V.length:Int):=by omega
   have OG:=y.ae.block gv GB (fun q=>q.elim Z5 Z7);obtain⟨x0,x1,x2,x3,x4⟩:=Wb wr k OG r;have I:=Mo.out k (by omega);have vu:=aA (aKJ (s:=(z64,C,S)) r);have J:=N.out.a1 k r;rw[HN.out]at J;have E:=N.out.a2 k r;have q3:=N.out.a3 k r;have R:=N.out.a4 k r;have F:=N.out.a5 k r;have Q:=N.out.hi;have L0:Hid (∀c:Int,(if(V.getD k vz).2.2.1=1 then(V.getD k vz).2.1 else u)=c->((c=-1/\∀j,j<k+1->(V.getD j vz).2.2.1≠1)\/c=H)):=fun c e=>by
    by_cases q:(V.getD k vz).2.2.1=1
    ·rw[if_pos q]at e;right;rw[<-e];exact F q
    ·rw[if_neg q]at e
     subst e;rcases FL with⟨e1,e2⟩ | e1
     ·refine .inl ⟨e1,fun j hj=>?_⟩
      by_cases ej:j=k
      ·rw[ej];exact q
      ·exact e2 j (by omega)
     ·exact .inr e1
   have Y:u=-1\/u=H:=FL.imp And.left id;generalize (V.take k).foldl edS (z64,C,S)=s at *;generalize V.getD k vz=v at *;obtain⟨b,d,kd,A,O⟩:=v;simp only at x0 x1 x2 x3 x4 J E q3 R F;obtain⟨b,rfl⟩:∃b':Nat,b=b':=⟨b.toNat,by omega⟩;obtain⟨d,rfl⟩:∃d':Nat,d=d':=⟨d.toNat,by omega⟩;have z:b<n:=by omega
   have xu:=hu wr (y.ae.block D Fe (fun q=>q.elim h1 h2)) b z;have q3':O=f.c.getD b 0:=q3;rw[<-q3']at xu;have xs:=eD y.s (by rw[I.l3];exact z);have Z:=I.s' b;have nn:=I.c b;have G:d<64:=by omega
   have Yy:o<wr.heap.size:=by obtain⟨_,_,q⟩:=y.b;exact q.lt
   have Y4:=y.f.lt;have Y2:=y.c.lt;have Y8:=y.s.lt;obtain⟨B,hB⟩:=eZ (wr.heap.size);obtain⟨T,di⟩:=eZ (wr.alloc (.cells #[iV b,iV d,iV kd,iV A,iV O] 48));have bg:=bAl di;have t:=iNw di hB;have Wy:=aA (y.below bg);have xu3:T.cell? (aD D (ou+b))=some (iV O):=(bg.cell (p:=aD D _) (World.block_lt_of_cell? _ _ xu)).trans xu;have P:T.cell? (aD B 0)=some (iV b):=t.c rfl;have d1:T.cell? (aD B 1)=some (iV d):=t.c rfl;have d2:T.cell? (aD B 2)=some (iV kd):=t.c rfl;have d3:T.cell? (aD B 3)=some (iV A):=t.c rfl;have d4:T.cell? (aD B 4)=some (iV O):=t.c rfl;have GT:=aA t;have BZ:=aA (aI hB bg);clear y xs xu t FL q3 q3' OG;go_upto_region 8 with fail
   clear di hB bg x0 x1 x2 x3 x4 Wb hu;have DC:(b:Int) <(n:Int):=by omega
   go_cut [63] (fun s63 wx=>s63=.bool false/\∃q,wx=T.drewN q)
   case first=>
    have c1:decide ((b:Int)<2)=false:=decide_eq_false (by omega);have c2:decide ((n:Int)<=(b:Int))=false:=decide_eq_false (by omega);have c2':decide (n<=b)=false:=decide_eq_false (by omega);have c4':decide (60<d)=false:=decide_eq_false (by omega);have c3:decide ((d:Int)<0)=false:=decide_eq_false (by omega);have c4:decide ((60:Int) <(d:Int))=false:=decide_eq_false (by omega);by_cases k0:k=0
    ·have e1:((d:Int) == 0)=true:=by have:=E.2.2.2 k0;simp[this]
     have e2:((k:Int) == 0)=true:=by simp[k0]
     clear J E R F k0 z G hk r jl Q Y Z nn;go_quiet (fail);go_wp2_with fail;go_meet
     case rel=>exact⟨rfl,_,rfl⟩
    ·have e1:((d:Int) == 0)=false:=by simp only[beq_eq_false_iff_ne,ne_eq];exact fun q=>k0 (E.2.2.1 q)
     have e2:((k:Int) == 0)=false:=by simp only[beq_eq_false_iff_ne,ne_eq];omega
     clear J E R F k0 z G hk r jl Q Y Z nn;go_quiet (fail);go_wp2_with fail;go_meet
     case rel=>exact⟨rfl,_,rfl⟩
   case rest=>
    obtain⟨rfl,q,rfl⟩:=hcut;obtain⟨K,AK⟩:=exH (T.drewN q);have U7:EM w o gf a g jb jf jc js s K:=by rw[AK.out];exact Wy.out.below (below_drewN _ _)
    have t:IsC K B #[iV b,iV d,iV kd,iV A,iV O] 48:=by rw[AK.out];exact GT.out
    rw[<-AK.out];clear P d1 d2 d3 d4 xu3 AK;have P:K.cell? (aD B 0)=some (iV b):=t.c rfl;have d1:K.cell? (aD B 1)=some (iV d):=t.c rfl;have d2:K.cell? (aD B 2)=some (iV kd):=t.c rfl;have d3:K.cell? (aD B 3)=some (iV A):=t.c rfl;have QX:=aA U7;have PL:=aA t;clear U7 t;go_upto_region 10 with fail
    go_cut [80] (fun s80 wx=>s80=.bool false/\K=wx)
    case first=>
     have c1:decide (5<A)=false:=decide_eq_false (by omega);by_cases h2:A<2
     ·have c2:decide (A<2)=true:=decide_eq_true h2
      obtain⟨rfl,rfl⟩:k=0/\kd=1:=by omega
      clear J E R F z G hk r jl Q Y Z nn h2;go_wp2_with fail;go_meet
      case rel=>exact⟨rfl,rfl⟩
     ·have c2:decide (A<2)=false:=decide_eq_false h2
      clear J E R F z G hk r jl Q Y Z nn h2;go_wp2_with fail;go_meet
      case rel=>exact⟨rfl,rfl⟩
    case rest=>
     obtain⟨rfl,rfl⟩:=hcut;obtain⟨c,HL⟩:∃c:Int,Hid ((if kd=1 then(d:Int)else u)=c):=⟨_,rfl⟩;have JK:=aA (L0.out c HL.out);clear L0;go_upto_if 83 with fail
     go_cut [11] (fun s11 wx=>s11=iV c/\K=wx)
     case first=>
      by_cases h2:kd=1
      ·have M:Hid ((d:Int)=c):=(if_pos h2).symm.trans HL.out
       have Vx:=F h2;have c1:(kd == 1)=true:=by simpa using h2
       by_cases hl:u=-1
       ·have c2:decide (0<=u)=false:=decide_eq_false (by omega)
        clear J E R F z G hk r jl Q Y Z nn h2 Vx hl HL;go_wp2_with fail;go_meet
        case rel=>exact⟨by rw[M.out],rfl⟩
       ·obtain rfl:u=(d:Int):=by omega
        clear J E R F z G hk r jl Q Y Z nn h2 Vx hl HL;go_wp2_with fail;go_meet
        case rel=>exact⟨by rw[M.out],rfl⟩
      ·have M:Hid (u=c):=(if_neg h2).symm.trans HL.out
       have c1:(kd == 1)=false:=by simpa using h2
       clear J E R F z G hk r jl Q Y Z nn h2 HL;go_wp2_with fail;go_meet
       case rel=>exact⟨by rw[M.out],rfl⟩
     case rest=>
      obtain⟨rfl,rfl⟩:=hcut;have au:gf≠o/\a≠o/\g≠o/\o≠gf/\a≠gf/\g≠gf/\o≠a/\gf≠a/\g≠a/\o≠g/\gf≠g/\a≠g/\B≠o/\B≠gf/\B≠a/\B≠g:=by
       have:=BZ.out.1;omega
      obtain⟨n1,n2,n3,n4,n5,n6,n7,n8,n9,n10,n11,n12,n13,n14,n15,n16⟩:=au;have Jh:=QX.out.e1 LC n1 n2 n3 G b;have O9:=PL.out.set_ne (p:=aD o d) (iV b) n13;obtain⟨bl,Gs,sg⟩:=QX.out.b;have mo:=eD sg (by omega:d<bl.length);have Ya:=sg.frozen d;obtain⟨U,Q2⟩:∃U,Hid (K.setCell (aD o d) (iV b)=U):=⟨_,rfl⟩;rw[Q2.out]at Jh O9;have hdi:(d:Int)<64:=by omega
      have Yz:=sg.lt;go_upto_region 17 with fail
      rw[Q2.out];clear P d1 d2 d3 mo Ya sg Gs;have P:U.cell? (aD B 0)=some (iV b):=O9.c rfl;have d1:U.cell? (aD B 1)=some (iV d):=O9.c rfl;have xs:=eD Jh.s (by rw[I.l3];exact z);have xf:=eD Jh.f (by rw[I.l1];exact G);have xff:=Jh.f.frozen d;have Y3:=Jh.f.lt;have U8:=Jh.e2 Sj n4 n5 n6 (by rw[I.l1];exact G) (1-s.2.2.getD b 0);have Wg:=O9.set_ne (p:=aD gf d) (iV (1-s.2.2.getD b 0)) n14;have bx:IntKind.i64.wrap (1-s.2.2.getD b 0)=1-s.2.2.getD b 0:=IntWalk.i64_in _ ⟨by omega,by omega⟩;have Lv:=aA (U8.below (bQ _ _).drew);have Mw:=aA Wg.drew;have Qu:Hid (edS s ((b:Int),(d:Int),kd,A,O)=(s.1.set d (1-s.2.2.getD b 0),if(d:Int)=0\/(s.1.set d (1-s.2.2.getD b 0)).getD (d-1) 0=1 then s.2.1.set b (s.2.1.getD b 0+1)else s.2.1,s.2.2.set b 1)):=rfl;have ed:(s.1.set d (1-s.2.2.getD b 0)).length=64:=by simp[I.l1]
      generalize s.1.set d (1-s.2.2.getD b 0)=F1 at *;generalize s.2.2.getD b 0=sb at *;obtain⟨fo,Qd⟩:∃x,Hid (s.1.getD d 0=x):=⟨_,rfl⟩;rw[Qd.out]at xf;clear Jh O9 U8 Wg PL QX;have HK:Hid (∀v,(U.setCell (aD gf d) v).drew.cell? (aD B 0)=some (iV b)/\(U.setCell (aD gf d) v).drew.cell? (aD B 1)=some (iV d)/\(U.setCell (aD gf d) v).drew.cell? (aD g b)=some (iV sb)):=fun v=>⟨aOA n14 P,aOA n14 d1,aOA n6 xs⟩;go_region_held3 (fun W=>W.cell? (aD B 0)=some (iV b)/\W.cell? (aD B 1)=some (iV d)/\W.cell? (aD g b)=some (iV sb)) (first | exact HK.out _ | go_keep | assumption) (fail);obtain⟨w6,Am⟩:∃w6,Hid ((U.setCell (aD gf d) (iV (1-sb))).drew=w6):=⟨_,rfl⟩;rw[Am.out]at Lv Mw |-;clear P d1 xs xf xff HK bx;have P:w6.cell? (aD B 0)=some (iV b):=by rw[Mw.out.cell];rfl
      have d1:w6.cell? (aD B 1)=some (iV d):=by rw[Mw.out.cell];rfl
      have Az:b<s.2.2.length:=by rw[I.l3];exact z
      have xs:=eD Lv.out.s Az;have xsf:=Lv.out.s.frozen b;have Y7:=Lv.out.s.lt;have RO:=Lv.out.e3 n10 n11 n12 Az 1;have PB:=Mw.out.set_ne (p:=aD g b) (iV 1) n16;obtain⟨X,HW7⟩:∃X,Hid (w6.setCell (aD g b) (iV 1)=X):=⟨_,rfl⟩;rw[HW7.out]at RO PB;have Lw:=aA RO;have Ut:=aA PB;have e0:X.cell? (aD B 0)=some (iV b):=PB.c rfl;have e1:X.cell? (aD B 1)=some (iV d):=PB.c rfl;clear RO PB Lv Mw;go_upto_region 19 with fail
      rw[HW7.out];clear P d1 xs xsf HW7;go_upto_if 116 with fail
      have mo:b<s.2.1.length:=by rw[I.l2];exact z
      have xc:=eD Lw.out.c mo;have xcf:=Lw.out.c.frozen b;have Y1:=Lw.out.c.lt;have U9:=(Lw.out.setC n7 n8 n9 mo (s.2.1.getD b 0+1)).below (bQ _ _).drew;have de:IntKind.i64.wrap (s.2.1.getD b 0+1)=s.2.1.getD b 0+1:=IntWalk.i64_in _ ⟨by omega,by omega⟩;have L:Hid ((d:Int)=0\/F1.getD (d-1) 0=1->EM w o gf a g jb jf jc js (edS s ((b:Int),(d:Int),kd,A,O)) (X.setCell (aD a b) (iV (s.2.1.getD b 0+1))).drew):=fun q=>by rw[Qu.out,if_pos q];exact U9
      have AI:Hid (¬((d:Int)=0\/F1.getD (d-1) 0=1)->EM w o gf a g jb jf jc js (edS s ((b:Int),(d:Int),kd,A,O)) X):=fun q=>by rw[Qu.out,if_neg q];exact Lw.out
      have xF:=fun(h:d-1<64)=>eD Lw.out.f (by rw[ed];exact h);generalize s.2.1.getD b 0=cb at *;have l:X.drew.cell? (aD B 0)=some (iV b)/\X.drew.cell? (aD a b)=some (iV cb):=⟨e0,xc⟩;clear U9 Qu;by_cases IX:d=0
      ·have c1:((d:Int) == 0)=true:=by simp[IX]
       have L:=aA (L.out (.inl (by omega)));clear AI xF IX;go_upto_region 20 with fail
       refine bB (fun W=>W.cell? (aD B 0)=some (iV b)/\W.cell? (aD a b)=some (iV cb)) 10 (by kernel_rfl) ?_;refine tJ 0 117 (sL a 0 n cc) rfl l ?_;refine tJ 1 118 (pT B 0) rfl l ?_;refine tJ 2 119 (iV b) rfl l ?_;refine tJ 3 120 (sL a 0 n cc) rfl l ?_;refine tJ 4 121 (pT B 0) rfl l ?_;refine tJ 5 122 (iV b) rfl l ?_;refine tJ 6 123 (pT a b) rfl l ?_;refine tJ 7 124 (iV cb) rfl l ?_;refine tJ 8 125 (iV (cb+1)) rfl l ?_;refine tJ 9 126 (pT a b) rfl l ?_;simp only[Act.put,sB,sZ,sS];refine oE 10 rfl fun K2 ae=>?_;go_simp;refine ae _ _ (fun q=>absurd rfl q) ?_;clear ae K2;refine aT (by kernel_rfl) ?_ _;go_wp2;go_roundw
       case rel=>exact⟨k+1,by omega,by go_num,⟨c,rfl,JK.out⟩,by rw[vu.out];exact L.out⟩
       case measure=>simp[intOf];omega
      ·have c1:((d:Int) == 0)=false:=by simp only[beq_eq_false_iff_ne,ne_eq];omega
       have x1:=xF (by omega);obtain⟨d1,rfl⟩:∃d1,d=d1+1:=⟨d-1,by omega⟩;simp only[Nat.add_sub_cancel]at x1 L AI;have di:IntKind.i64.wrap (((d1+1:Nat):Int)-1)=(d1:Int):=(IntWalk.i64_in _ ⟨by omega,by omega⟩).trans (by omega);have Yl:(d1:Int)<64:=by omega
       generalize F1.getD d1 0=fx at *;by_cases FD:fx=1
       ·have c2:(fx == 1)=true:=by simp[FD]
        have L:=aA (L.out (.inr FD));clear AI xF IX FD;go_upto_region 22 with fail
        refine bB (fun W=>W.cell? (aD B 0)=some (iV b)/\W.cell? (aD a b)=some (iV cb)) 10 (by kernel_rfl) ?_;refine tJ 0 134 (sL a 0 n cc) rfl l ?_;refine tJ 1 135 (pT B 0) rfl l ?_;refine tJ 2 136 (iV b) rfl l ?_;refine tJ 3 137 (sL a 0 n cc) rfl l ?_;refine tJ 4 138 (pT B 0) rfl l ?_;refine tJ 5 139 (iV b) rfl l ?_;refine tJ 6 140 (pT a b) rfl l ?_;refine tJ 7 141 (iV cb) rfl l ?_;refine tJ 8 142 (iV (cb+1)) rfl l ?_;refine tJ 9 143 (pT a b) rfl l ?_;simp only[Act.put,sB,sZ,sS];refine oE 10 rfl fun K2 ae=>?_;go_simp;refine ae _ _ (fun q=>absurd rfl q) ?_;clear ae K2;refine aT (by kernel_rfl) ?_ _;go_wp2;go_roundw
        case rel=>exact⟨k+1,by omega,by go_num,⟨c,rfl,JK.out⟩,by rw[vu.out];exact L.out⟩
        case measure=>simp[intOf];omega
       ·have c2:(fx == 1)=false:=by simpa using FD
        have AI:=aA (AI.out (fun q=>q.elim (fun q=>by omega) FD));clear L xF IX FD;go_wp2;go_roundw
        case rel=>exact⟨k+1,by omega,by go_num,⟨c,rfl,JK.out⟩,by rw[vu.out];exact AI.out⟩
        case measure=>simp[intOf];omega
  ·obtain rfl:k=V.length:=by omega
   rw[List.take_length]at y;have ZN:u=H:=by
    rcases FL with⟨_,q⟩ | q
    ·obtain⟨i,hi,e⟩:=N.out.lf
     exact absurd e (q i hi)
    ·exact q
   have Q:(0:Int)<=H:=N.out.hi.1;subst ZN;have M:=aA y;clear y FL;go_wp2;go_ret;exact⟨rfl,M.out.c,M.out.s,M.out.ae⟩
end Go.Proofs.YtmpagpeenjddgaaGreat
namespace Go.Proofs.YtmpagpeenjddgaaGreat
open Go.RowKit
variable{n s:Int}{zs:List Int}{base c g:Nat}{p:Nat×Int}{a:Option Addr}{u:Value}{w w' wr:World}
theorem set_ne(w:World)(g i j:Nat)(v:Value)(h:i≠j):(w.setCell (aD g i) v).cell? (aD g j)=w.cell? (aD g j):=World.cell?_setCell_other _ _ _ _ (by intro e;simp only[Addr.mk.injEq]at e;omega)
theorem xT(w:World)(g b i j:Nat)(v:Value)(h:b≠g):(w.setCell (aD g i) v).cell? (aD b j)=w.cell? (aD b j):=World.cell?_setCell_other _ _ _ _ (by intro e;simp only[Addr.mk.injEq]at e;omega)
def nxN(s:Int):Int:=IntKind.u64.wrap (IntKind.u64.wrap (s*6364136223846793005)+1442695040888963407)
def nxS(zs:List Int)(p:Nat×Int):Nat×Int:=(if p.1<zs.length then p.1+1 else p.1,nxN p.2)
def nxV(zs:List Int)(p:Nat×Int)(n:Int):Int:=if p.1<zs.length then wrap64 ((bits .xor .u64 (nxN p.2 / 8589934592) (IntKind.u64.wrap (zs.getD p.1 0))).tmod n)else wrap64 ((nxN p.2 / 8589934592).tmod n)
theorem nE(x:Int):0<=IntKind.u64.wrap x/\IntKind.u64.wrap x<18446744073709551616:=by simp only[IntKind.wrap,IntKind.signed,IntKind.bits];simp;omega
theorem aEO{x:Int}(hx:0<=x)(hn:0<n)(d:n<=9223372036854775807):0<=wrap64 (x.tmod n)/\wrap64 (x.tmod n)<n:=by
 rw[Int.tmod_eq_emod_of_nonneg hx];have a:=Int.emod_nonneg x (show n≠0 by omega);have b:=Int.emod_lt_of_pos x hn;have c:wrap64 (x % n)=x % n:=by unfold wrap64;omega
 rw[c];exact⟨a,b⟩
theorem aDG{a b:Int}(h1:0<=a)(h2:a<18446744073709551616)(h3:0<=b)(c:b<18446744073709551616):0<=bits .xor .u64 a b:=by
 rw[u64_xor a b h1 h2 h3 c];omega
theorem bW(zs:List Int)(p:Nat×Int)(hn:0<n)(a:n<=9223372036854775807):0<=nxV zs p n/\nxV zs p n<n:=by
 have h:=nE (IntKind.u64.wrap (p.2*6364136223846793005)+1442695040888963407);unfold nxV nxN;split
 ·exact aEO (aDG (by omega) (by omega) (nE _).1 (nE _).2) hn a
 ·exact aEO (by omega) hn a
structure dQ(base g:Nat)(a:Option Addr)(c:Nat)(zs:List Int)(p:Nat×Int)(w:World):Prop where
 code:Bts w (.slice a zs.length c) zs
 old:0<zs.length->∀b off,a=some ⟨b,off,none⟩->b<base
 lo:base<=g
 len:zs.length<=1048576
 pos:p.1<=zs.length
 cells:w.cell? (aD g 0)=some (.slice a zs.length c)/\w.cell? (aD g 1)=some (iV p.1)/\w.cell? (aD g 2)=some (.int .u64 p.2)/\w.frozen? (aD g 0)=false/\w.frozen? (aD g 1)=false/\w.frozen? (aD g 2)=false
theorem dQ.heap(h:dQ base g a c zs p w)(e:w'.heap=w.heap):dQ base g a c zs p w':=by
 have b:∀p:Addr,w'.cell? p=w.cell? p:=fun p=>World.cell?_of_block (by rw[e]);have d:∀p:Addr,w'.frozen? p=w.frozen? p:=fun p=>World.frozen?_of_block (by rw[e]);exact⟨h.code.kept fun _ _ _=>b _,h.old,h.lo,h.len,h.pos,by simpa only[b,d] using h.cells⟩
theorem dQ.lt(h:dQ base g a c zs p w):g<w.heap.size:=World.block_lt_of_cell? _ _ h.cells.1
theorem dQ.ae{S:Nat->Prop}(h:dQ base g a c zs p w)(k:Frm S w w')(l:¬S g)(s:∀b,S b->base<=b):dQ base g a c zs p w':=by
 have j:=h.lt;have q:∀o,w'.cell? (aD g o)=w.cell? (aD g o):=fun o=>World.cell?_of_block (k.block g j l);have r:∀o,w'.frozen? (aD g o)=w.frozen? (aD g o):=fun o=>World.frozen?_of_block (k.block g j l);refine⟨⟨h.code.small,?_⟩,h.old,h.lo,h.len,h.pos,by simpa only[q,r] using h.cells⟩;obtain⟨_,_,d,t⟩:=h.code.shape;refine⟨_,_,d,fun n=>?_⟩;simp only[Value.slice.injEq,true_and]at d;obtain⟨rfl,rfl⟩:=d;obtain⟨b,off,rfl,f⟩:=t n;refine⟨b,off,rfl,fun i m=>(World.cell?_of_block (w:=w) (k.block b (World.block_lt_of_cell? _ _ (f i m)) fun e=>?_)).trans (f i m)⟩;have u:=s b e;have v:=h.old n b off rfl;omega
theorem dQ.below(h:dQ base g a c zs p w)(k:Bl w w'):dQ base g a c zs p w':=h.ae (Frm.aa (S:=fun _=>False) k) (fun e=>e) (fun _ e=>e.elim)
theorem dQ.stored(h:dQ base g a c zs p w)(s:Int):dQ base g a c zs (p.1,s) (w.setCell (aD g 2) (.int .u64 s))/\Frm (·=g) w (w.setCell (aD g 2) (.int .u64 s)):=by
 obtain⟨j,l,m,n,o,q⟩:=h.cells;refine⟨⟨⟨h.code.small,?_⟩,h.old,h.lo,h.len,h.pos,(set_ne _ _ _ _ _ (by decide)).trans j,(set_ne _ _ _ _ _ (by decide)).trans l,World.cell?_setCell_same _ _ _ m,(World.frozen?_setCell _ _ _ _).trans n,(World.frozen?_setCell _ _ _ _).trans o,(World.frozen?_setCell _ _ _ _).trans q⟩,rfl,rfl,rfl,by simp[World.setCell],fun k _ u=>Below.heap_setCell _ _ _ _ u⟩;obtain⟨_,_,d,r⟩:=h.code.shape;refine⟨_,_,d,fun e=>?_⟩;simp only[Value.slice.injEq,true_and]at d;obtain⟨rfl,rfl⟩:=d;obtain⟨b,off,rfl,f⟩:=r e;exact⟨b,off,rfl,fun i t=>(xT _ _ _ _ _ _ (by have v:=h.old e b off rfl;have x:=h.lo;omega)).trans (f i t)⟩
theorem dQ.eb(h:dQ base g a c zs p w)(q:Nat)(v:q<=zs.length):dQ base g a c zs (q,p.2) (w.setCell (aD g 1) (iV q))/\Frm (·=g) w (w.setCell (aD g 1) (iV q)):=by
 obtain⟨j,l,m,n,o,r⟩:=h.cells;refine⟨⟨⟨h.code.small,?_⟩,h.old,h.lo,h.len,v,(set_ne _ _ _ _ _ (by decide)).trans j,World.cell?_setCell_same _ _ _ l,(set_ne _ _ _ _ _ (by decide)).trans m,(World.frozen?_setCell _ _ _ _).trans n,(World.frozen?_setCell _ _ _ _).trans o,(World.frozen?_setCell _ _ _ _).trans r⟩,rfl,rfl,rfl,by simp[World.setCell],fun k _ u=>Below.heap_setCell _ _ _ _ u⟩;obtain⟨_,_,d,s⟩:=h.code.shape;refine⟨_,_,d,fun e=>?_⟩;simp only[Value.slice.injEq,true_and]at d;obtain⟨rfl,rfl⟩:=d;obtain⟨b,off,rfl,f⟩:=s e;exact⟨b,off,rfl,fun i t=>(xT _ _ _ _ _ _ (by have x:=h.old e b off rfl;have y:=h.lo;omega)).trans (f i t)⟩
theorem bA(base g:Nat)(a:Option Addr)(c:Nat)(zs:List Int)(p:Nat×Int)(n:Int)(hn:0<n)(I:n<=9223372036854775807)(w:World)(d:dQ base g a c zs p w):
  Calls Tryz.prog 28 #[pT g 0,iV n] w fun e w'=>e=.returned (iV (nxV zs p n))/\dQ base g a c zs (nxS zs p) w'/\Frm (·=g) w w':=by
 have k:Hid (dQ base g a c zs p w):=d;obtain⟨pos,s⟩:=p;have B:=d.pos;obtain⟨u,m,x,F,G,H⟩:=d.cells;simp only at B m x;have E:=d.len;have C:¬n<=0:=by omega
 have D:¬n=0:=by omega
 have A:IntKind.u64.wrap n=n:=by simp only[IntKind.wrap,IntKind.signed,IntKind.bits];simp;omega
 have K0:=fun v=>(set_ne w g 2 0 v (by decide)).trans u;have j:=fun v=>(set_ne w g 2 1 v (by decide)).trans m;by_cases f:pos<zs.length
 ·have y:(pos:Int) <(zs.length:Int):=by omega
  obtain⟨_,_,r,q⟩:=d.code.shape;simp only[Value.slice.injEq,true_and]at r;obtain⟨rfl,rfl⟩:=r;obtain⟨b,off,rfl,l⟩:=q (by omega);have t:b≠g:=by have:=d.old (by omega) b off rfl;have:=d.lo;omega
  have o:=l pos f;have K2:=fun v=>(xT w g b 2 (off+pos) v t).trans o;have h:Hid (nxV zs (pos,s) n=wrap64 ((bits .xor .u64 (nxN s / 8589934592) (IntKind.u64.wrap (zs.getD pos 0))).tmod n)):=if_pos f;have i:Hid (nxS zs (pos,s)=(pos+1,nxN s)):=by unfold nxS;rw[if_pos f];rfl
  generalize zs.getD pos 0=z at o K2 h;clear q l d;go_enter Tryz.func28,Tryz.ntmps28;go_wp2;go_region_held3 (fun w'=>w'.cell? (aD g 1)=some (iV pos)/\w'.cell? (aD g 0)=some (sL b off zs.length c)) (first | exact⟨j _,K0 _⟩ | go_keep | assumption) (fail);go_wp2;go_region_held3 (fun w'=>w'.cell? (aD g 0)=some (sL b off zs.length c)/\w'.cell? (aD g 1)=some (iV pos)/\w'.cell? (aD b (off+pos))=some (.int .u8 z)) (first | exact⟨K0 _,j _,K2 _⟩ | go_keep | assumption) (fail);go_wp2;refine bodyPost_ret (by simp[results,Tryz.results28,go_sem];rfl) rfl ?_;obtain⟨r1,r2⟩:=k.out.stored (nxN s);obtain⟨r3,r4⟩:=r1.eb (pos+1) (by omega);rw[h.out,i.out];exact⟨rfl,r3.heap rfl,(r2.trans r4).trans ⟨rfl,rfl,rfl,nR _,fun _ _ _=>rfl⟩⟩
 ·have y:¬(pos:Int) <(zs.length:Int):=by omega
  have h:Hid (nxV zs (pos,s) n=wrap64 ((nxN s / 8589934592).tmod n)):=if_neg f;have i:Hid (nxS zs (pos,s)=(pos,nxN s)):=by unfold nxS;rw[if_neg f];rfl
  clear d;go_enter Tryz.func28,Tryz.ntmps28;go_wp2;go_region_held3 (fun w'=>w'.cell? (aD g 1)=some (iV pos)/\w'.cell? (aD g 0)=some (.slice a zs.length c)) (first | exact⟨j _,K0 _⟩ | go_keep | assumption) (fail);go_wp2;refine bodyPost_ret (by simp[results,Tryz.results28,go_sem];rfl) rfl ?_;obtain⟨r1,r2⟩:=k.out.stored (nxN s);rw[h.out,i.out];exact⟨rfl,r1.heap rfl,r2.trans ⟨rfl,rfl,rfl,nR _,fun _ _ _=>rfl⟩⟩
def bgN(zs:List Int):Nat->Int
 | 0=>1469598103934665603
 | k+1=>IntKind.u64.wrap (bits .xor .u64 (bgN zs k) (IntKind.u64.wrap (zs.getD k 0))*1099511628211)
structure Bgn(w:World)(g:Nat)(u:Value)(s:Int)(wr:World):Prop where
 res:wr.heap[w.heap.size]?=some (.cells #[.slice none 0 0,iV 0,.int .u64 0] 51)
 c0:wr.cell? (aD g 0)=some u
 c1:wr.cell? (aD g 1)=some (iV 0)
 c2:wr.cell? (aD g 2)=some (.int .u64 s)
 free:∀o,wr.frozen? (aD g o)=false
 bk:Bl w wr
theorem Bgn.stored(h:Bgn w g u s wr)(b:w.heap.size<g)(a:Int):Bgn w g u a (wr.setCell (aD g 2) (.int .u64 a)):=
 ⟨(Below.heap_setCell _ _ _ _ (by show w.heap.size≠g;omega)).trans h.res,(set_ne _ _ _ _ _ (by decide)).trans h.c0,(set_ne _ _ _ _ _ (by decide)).trans h.c1,World.cell?_setCell_same _ _ _ h.c2,fun o=>(World.frozen?_setCell _ _ _ _).trans (h.free o),h.bk.setCell (by show w.heap.size<=g;omega) _⟩
theorem Bgn.heap(h:Bgn w g u s wr)(e:w'.heap=wr.heap)(e1:w'.os=wr.os)(e2:w'.tape=wr.tape)(b:w'.output=wr.output):Bgn w g u s w':=by
 have a:∀p:Addr,w'.cell? p=wr.cell? p:=fun p=>World.cell?_of_block (by rw[e]);have c:∀p:Addr,w'.frozen? p=wr.frozen? p:=fun p=>World.frozen?_of_block (by rw[e]);exact⟨by rw[e];exact h.res,(a _).trans h.c0,(a _).trans h.c1,(a _).trans h.c2,fun o=>(c _).trans (h.free o),h.bk.trans ⟨e1,e2,b,by rw[e];exact nR _,fun k _=>by rw[e]⟩⟩
theorem aFT(a:Option Addr)(c:Nat)(zs:List Int)(w:World)(E:Bts w (.slice a zs.length c) zs)(O:zs.length<=1048576):
  Calls Tryz.prog 16 #[.slice a zs.length c] w fun e w'=>e=.returned (.agg #[.slice a zs.length c,iV 0,.int .u64 (bgN zs zs.length)])/\Bl w w':=by
 have m:Hid (∀t,Bgn w (w.heap.size+1) (.slice a zs.length c) 1469598103934665603 ((w.alloc (.cells #[.slice none 0 0,iV 0,.int .u64 0] 51)).alloc (.cells #[.slice a zs.length c,iV 0,.int .u64 1469598103934665603] t))):=fun t=>by
  refine⟨?_,?_,?_,?_,fun i=>?_,((bQ _ _).alloc (nR _) _).alloc (by simp) _⟩
  ·rw[Below.heap_alloc _ _ _ (by simp)];exact heap_alloc_new w _
  ·rw[World.cell?_alloc_at _ _ _ _ (by simp)];rfl
  ·rw[World.cell?_alloc_at _ _ _ _ (by simp)];rfl
  ·rw[World.cell?_alloc_at _ _ _ _ (by simp)];rfl
  ·rw[World.frozen?_alloc_at _ _ _ _ (by simp)]
 go_enter Tryz.func16,Tryz.ntmps16
 go_wp2
 go_loopw [4] (fun i wr=>∃k:Nat,k<=zs.length/\i=iV k/\Bgn w (w.heap.size+1) (.slice a zs.length c) (bgN zs k) wr) (fun i _=>zs.length -(intOf i).toNat)
 case atStart=>exact⟨0,Nat.zero_le _,rfl,m.out _⟩
 case round=>
  obtain⟨k,N,rfl,d⟩:=hrel;clear m;by_cases u:k<zs.length
  ·have D:(k:Int) <(zs.length:Int):=by omega
   obtain⟨_,_,o,n⟩:=E.shape;simp only[Value.slice.injEq,true_and]at o;obtain⟨rfl,rfl⟩:=o;obtain⟨b,off,rfl,g⟩:=n (by omega);have F:b<w.heap.size:=World.block_lt_of_cell? _ _ (g 0 (by omega));have C:wr.cell? (aD b (off+k))=some (.int .u8 (zs.getD k 0)):=(d.bk.cell (p:=aD b (off+k)) F).trans (g k u);have h:=d.c2;have M:=d.free 2;have l:Hid (Bgn w (w.heap.size+1) (sL b off zs.length c) (bgN zs k) wr):=d;have f:Hid (bgN zs (k+1)=IntKind.u64.wrap (bits .xor .u64 (bgN zs k) (IntKind.u64.wrap (zs.getD k 0))*1099511628211)):=rfl;generalize zs.getD k 0=z at C f;generalize bgN zs k=s at h l f;clear d g n;go_wp2;go_region_law (fail)
   all_goals go_wp2
   all_goals go_roundw
   all_goals first | exact⟨k+1,by omega,by go_num,by rw[f.out];exact(l.out.stored (by omega) _).heap rfl rfl rfl rfl⟩ | (simp[intOf];omega)
  ·have D:¬(k:Int) <(zs.length:Int):=by omega
   obtain rfl:k=zs.length:=by omega
   have h:=d.c2;have K:=d.c0;have L:=d.c1;have J:=d.bk;have G:wr.cell? (aD w.heap.size 0)=some (.slice none 0 0):=by simp[World.cell?,d.res]
   have H:wr.cell? (aD w.heap.size 1)=some (iV 0):=by simp[World.cell?,d.res]
   have I:wr.cell? (aD w.heap.size 2)=some (.int .u64 0):=by simp[World.cell?,d.res]
   have P:∀j,wr.frozen? (aD w.heap.size j)=false:=fun j=>frozen_of_row wr w.heap.size j _ _ d.res;have r:=fun x y z=>((J.setCell (p:=aD w.heap.size 0) (nR _) x).setCell (p:=aD w.heap.size 1) (nR _) y).setCell (p:=aD w.heap.size 2) (nR _) z;have e0:=fun x=>World.cell?_setCell_same wr ⟨w.heap.size,0,none⟩ x G;have A:=fun x y=>World.cell?_setCell_same (wr.setCell (aD w.heap.size 0) x) ⟨w.heap.size,1,none⟩ y ((set_ne _ _ _ _ _ (by decide)).trans H);have B:=fun x y z=>World.cell?_setCell_same ((wr.setCell (aD w.heap.size 0) x).setCell (aD w.heap.size 1) y) ⟨w.heap.size,2,none⟩ z (((set_ne _ _ _ _ _ (by decide)).trans (set_ne _ _ _ _ _ (by decide))).trans I);obtain⟨s,q⟩:∃s,Hid (bgN zs zs.length=s):=⟨_,rfl⟩;rw[q.out]at h;clear d;go_wp2;exact bodyPost_ret (v:=.agg #[.slice a zs.length c,iV 0,.int .u64 s]) (by simp[results,Tryz.results16,go_sem,e0,A,B]) rfl ⟨by rw[q.out],r _ _ _⟩
end Go.Proofs.YtmpagpeenjddgaaGreat
namespace Go.Proofs.YtmpagpeenjddgaaGreat
open Go.RowKit Fo
variable{a:Act}{l:Array Bool}{ops:Array Oper}{i k m n:Nat}{o:Oper}{w w' w0:World}
def Is(B:Nat)(w:World)(r:Nat)(cs:Array Value)(t:TypeId):Prop:=B<=r/\w.heap[r]?=some (.cells cs t (0,0))
def aLC(w:World)(m p:Nat):Prop:=(∃es c,w.heap[m]?=some (.map es c))/\dV w m (upd (fun _=>none) 2 (some p))
def FF(B n:Nat)(w:World)(t:Nat->Value)(l5:Bool):Nat->Prop
 | 0=>t 4=.agg #[iV 0,iV 2]
 | 1=>∃r,t 5=sL r 0 1 1/\Is B w r #[iV 0,iV 2] 92
 | 2=>∃m,t 6=.map (some m)/\B<=m/\(∃es c,w.heap[m]?=some (.map es c))/\(l5=false->w.heap[m]?=some (.map #[] 0))
 | 3=>t 7=.agg #[iV 1,.slice none 0 0]
 | 4=>∃p,t 8=pT p 0/\Is B w p #[iV 1,.slice none 0 0] 96
 | 5=>∃m p,t 6=.map (some m)/\t 8=pT p 0/\aLC w m p
 | 6=>t 9=t 6
 | 7=>t 10=iV n
 | 8=>∃c,t 11=sL c 0 n n/\Is B w c (dA (List.replicate n 0)) 2
 | 9=>t 12=iV n
 | 10=>∃d,t 13=sL d 0 n n/\Is B w d (dA (List.replicate n 0)) 2
 | 11=>∃q,t 14=sL q 0 1 1/\Is B w q #[iV 3] 2
 | 12=>t 15=.agg #[t 5,iV 1,iV 1,t 9,t 11,t 13,t 14,.slice none 0 0]
 | 13=>∃f cs,t 15=.agg cs/\t 16=pT f 0/\Is B w f cs 67
 | 14=>t 3=t 16
 | _=>True
def fW:List (List Nat):=[[4],[5],[6],[7],[8],[6,8],[9,6],[10],[11],[12],[13],[14],[15,5,9,11,13,14],[15,16],[3,16]]
def KpZ(w w':World)(ok:Prop):Prop:=(∀(g:Nat) cs t fr,w.heap[g]?=some (Obj.cells cs t fr)->w'.heap[g]?=some (Obj.cells cs t fr))/\(∀(g:Nat) es c,w.heap[g]?=some (Obj.map es c)->∃es c,w'.heap[g]?=some (Obj.map es c))/\(ok->∀(g:Nat) es c,w.heap[g]?=some (Obj.map es c)->w'.heap[g]?=some (Obj.map es c))
theorem KpZ.below(h:Bl w w'):KpZ w w' True:=
 ⟨fun g _ _ _ e=>(h.block g (Array.getElem?_eq_some_iff.1 e).1).trans e,fun g es c e=>⟨es,c,(h.block g (Array.getElem?_eq_some_iff.1 e).1).trans e⟩,fun _ g _ _ e=>(h.block g (Array.getElem?_eq_some_iff.1 e).1).trans e⟩
theorem FF.bq{B:Nat}{t t':Nat->Value}{l l':Bool}(h:FF B n w t l k)(y:l'=false->l=false/\True)(a:∀s∈fW.getD k [],t' s=t s)(x:KpZ w w' (k=5\/l'=false)):FF B n w' t' l' k:=by
 obtain⟨g,z,o⟩:=x;match k with
 | 0=>exact(a 4 (by simp[fW])).trans h
 | 1=>obtain⟨r,e,b,d⟩:=h;exact⟨r,(a 5 (by simp[fW])).trans e,b,g _ _ _ _ d⟩
 | 2=>obtain⟨m,e,b,⟨es,c,d⟩,v⟩:=h;exact⟨m,(a 6 (by simp[fW])).trans e,b,z _ _ _ d,fun q=>o (.inr q) _ _ _ (v (y q).1)⟩
 | 3=>exact(a 7 (by simp[fW])).trans h
 | 4=>obtain⟨r,e,b,d⟩:=h;exact⟨r,(a 8 (by simp[fW])).trans e,b,g _ _ _ _ d⟩
 | 5=>obtain⟨m,p,i,j,⟨es,c,b⟩,d⟩:=h;exact⟨m,p,(a 6 (by simp[fW])).trans i,(a 8 (by simp[fW])).trans j,⟨es,c,o (.inl rfl) _ _ _ b⟩,d.of ((o (.inl rfl) _ _ _ b).trans b.symm)⟩
 | 6=>exact((a 9 (by simp[fW])).trans h).trans (a 6 (by simp[fW])).symm
 | 7=>exact(a 10 (by simp[fW])).trans h
 | 8=>obtain⟨r,e,b,d⟩:=h;exact⟨r,(a 11 (by simp[fW])).trans e,b,g _ _ _ _ d⟩
 | 9=>exact(a 12 (by simp[fW])).trans h
 | 10=>obtain⟨r,e,b,d⟩:=h;exact⟨r,(a 13 (by simp[fW])).trans e,b,g _ _ _ _ d⟩
 | 11=>obtain⟨r,e,b,d⟩:=h;exact⟨r,(a 14 (by simp[fW])).trans e,b,g _ _ _ _ d⟩
 | 12=>
  have u:t 15=.agg #[t 5,iV 1,iV 1,t 9,t 11,t 13,t 14,.slice none 0 0]:=h;show t' 15=.agg #[t' 5,iV 1,iV 1,t' 9,t' 11,t' 13,t' 14,.slice none 0 0]
  rw[a 15 (by simp[fW]),a 5 (by simp[fW]),a 9 (by simp[fW]),a 11 (by simp[fW]),a 13 (by simp[fW]),a 14 (by simp[fW])];exact u
 | 13=>obtain⟨f,cs,i,j,b,d⟩:=h;exact⟨f,cs,(a 15 (by simp[fW])).trans i,(a 16 (by simp[fW])).trans j,b,g _ _ _ _ d⟩
 | 14=>exact((a 3 (by simp[fW])).trans h).trans (a 16 (by simp[fW])).symm
 | k+15=>trivial
structure FI(w0:World)(n:Nat)(l:Array Bool)(a:Act)(w:World):Prop where
 size:a.tmps.size=33
 defers:a.defers=[]
 arg:a.tmps.getD 0 undef=iV n
 below:Bl w0 w
 facts:∀k,l.getD k false=true->FF w0.heap.size n w (fun s=>a.tmps.getD s undef) (l.getD 5 false) k
 apart:l.getD 8 false=true->l.getD 10 false=true->a.tmps.getD 11 undef≠a.tmps.getD 13 undef
def aIS(ops:Array Oper):Bool:=(List.range 15).all fun k=>(fW.getD k []).all fun s=>(List.range 15).all fun i=>i == k || (((ops[i]?).bind (·.dst)) != some s) || (((ops[k]?).map fun o=>o.after.toList.any fun e=>Region.binds .any e && e.on == i).getD false)
theorem aMA(hd:aIS ops=true)(g:aLA .any ops l)(n:i<15)(p:k<15)(c:l.getD k false=true)(hn:l.getD i false=false)(q:ops[i]?=some o){s:Nat}(r:s∈fW.getD k []):o.dst≠some s:=by
 intro m;have t:i≠k:=fun e=>by subst e;rw[c]at hn;cases hn
 have h:=List.all_eq_true.1 hd k (List.mem_range.2 p);have j:=List.all_eq_true.1 h s r;have a:=List.all_eq_true.1 j i (List.mem_range.2 n);rw[q]at a;simp only[Option.bind_some,m,bne_self_eq_false,Bool.or_false,Bool.or_eq_true,beq_iff_eq]at a;rcases a with a | a
 ·exact t a
 ·cases b:ops[k]? with
  | none=>simp[b]at a
  | some u=>
   simp only[b,Option.map_some,Option.getD_some,List.any_eq_true,Bool.and_eq_true,beq_iff_eq]at a;obtain⟨e,d,v,f⟩:=a;have:=g k c u b e (by simpa using d) v;rw[f,hn]at this;cases this
theorem aMN(a:Act)(d s:Nat)(v:Value)(h:d<a.tmps.size):(a.put (some d) v).tmps.getD s undef=if s=d then v else a.tmps.getD s undef:=by
 simp only[Act.put,Array.getD_eq_getD_getElem?,Array.getElem?_setIfInBounds];by_cases e:d=s
 ·subst e;simp[h]
 ·rw[if_neg e,if_neg (Ne.symm e)]
theorem FI.next(h:FI w0 n l a w)(hd:aIS ops=true)(r:aLA .any ops l)(D:ops[i]?=some o)(C:i<15)(G:l.size=15)(j:l.getD i false=false)(y:i≠5)
  (d:Nat) (q:o.dst=some d) (H:d<33) (m:d≠0) (v:Value) (w':World) (c:Bl w w')
  (A:FF w0.heap.size n w' (fun s=>if s=d then v else a.tmps.getD s undef) (l.getD 5 false) i)
  (F:(l.setIfInBounds i true).getD 8 false=true->(l.setIfInBounds i true).getD 10 false=true->(if 11=d then v else a.tmps.getD 11 undef)≠(if 13=d then v else a.tmps.getD 13 undef)):
  FI w0 n (l.setIfInBounds i true) (a.put (some d) v) w':=by
 have t:=h.size;have b:=fun s=>aMN a d s v (by omega);have u:(l.setIfInBounds i true).getD 5 false=l.getD 5 false:=getD_set_ne false y;refine⟨by simp[Act.put,t],h.defers,?_,h.below.trans (c.mono h.below.size),fun k f=>?_,fun z x=>?_⟩
 ·rw[b,if_neg (Ne.symm m)];exact h.arg
 ·rw[u]
  by_cases g:i=k
  ·subst g
   have:(fun s=>(a.put (some d) v).tmps.getD s undef)=fun s=>if s=d then v else a.tmps.getD s undef:=funext b
   rw[this];exact A
  ·rw[getD_set_ne false g]at f
   have p:k<15:=by
    by_cases B:k<15
    ·exact B
    ·simp[Array.getElem?_eq_none (show l.size<=k by omega)]at f
   refine(h.facts k f).bq (fun e=>⟨e,trivial⟩) (fun s E=>?_) ⟨(KpZ.below c).1,(KpZ.below c).2.1,fun _=>(KpZ.below c).2.2 trivial⟩;have:=aMA hd r C p f j D E;rw[b,if_neg (fun e=>this (by rw[e];exact q))]
 ·rw[b,b];exact F z x
theorem FI.au(h:FI w0 n l a w)(i d:Nat)(v:Value)(f:i≠8)(e:i≠10)(b:11≠d)(c:13≠d):
  (l.setIfInBounds i true).getD 8 false=true->(l.setIfInBounds i true).getD 10 false=true->(if 11=d then v else a.tmps.getD 11 undef)≠(if 13=d then v else a.tmps.getD 13 undef):=by
 rw[getD_set_ne false f,getD_set_ne false e,if_neg b,if_neg c];exact h.apart
theorem FI.ins(h:FI w0 n l a w)(u:l.size=15)(C:l.getD 5 false=false)(w':World)(m p:Nat)
  (A:a.tmps.getD 6 undef=.map (some m)) (B:a.tmps.getD 8 undef=pT p 0) (y:w0.heap.size<=m) (o:aLC w' m p) (d:Upd m (m+1) w w') (he:w.heap[m]?=some (.map #[] 0)):
  FI w0 n (l.setIfInBounds 5 true) a w':=by
 have D:m<w.heap.size:=(Array.getElem?_eq_some_iff.1 he).1;have v:(l.setIfInBounds 5 true).getD 5 false=true:=by simp[u]
 have r:KpZ w w' False:=by
  refine⟨fun g cs t F b=>?_,fun g es c b=>?_,fun z=>z.elim⟩
  ·have E:g≠m:=fun e=>by subst e;rw[he]at b;cases b
   exact(d.block g (Array.getElem?_eq_some_iff.1 b).1 (by omega)).trans b
  ·by_cases e:g=m
   ·subst e;obtain⟨⟨es,c,x⟩,_⟩:=o;exact⟨es,c,x⟩
   ·exact⟨es,c,(d.block g (Array.getElem?_eq_some_iff.1 b).1 (by omega)).trans b⟩
 refine⟨h.size,h.defers,h.arg,h.below.trans (d.below y h.below.size),fun k q=>?_,fun j i=>?_⟩
 ·rw[v]
  by_cases f:5=k
  ·subst f;exact⟨m,p,A,B,o⟩
  ·rw[getD_set_ne false f]at q
   exact(h.facts k q).bq (fun e=>by cases e) (fun s _=>rfl) ⟨r.1,r.2.1,fun e=>by rcases e with e | e;exact absurd e.symm f;cases e⟩
 ·rw[getD_set_ne false (show(5:Nat)≠8 by omega)]at j
  rw[getD_set_ne false (show(5:Nat)≠10 by omega)]at i;exact h.apart j i
theorem map_none(he:w.heap[m]?=some (.map #[] 0)):dV w m (fun _=>none):=by
 refine⟨.map [],⟨#[],0,he,⟨by simp,MapKept.stamped_empty 0,by simp⟩,by simp[Maps.size],rfl⟩,?_,fun b _=>rfl,fun b _=>rfl⟩;have z:∀n,cX n (fun b=>if((fun _=>none:Nat->Option Nat) b).isSome then 1 else 0)=0:=fun n=>by
  induction n with
  | zero=>rfl
  | succ n ih=>simp only[cX];rw[ih];rfl
 exact(z 512).symm
theorem aMJ{p:Nat}(he:w.heap[m]?=some (.map #[] 0)):
  ∃w',(Instr.mapUpdate 64 (.map (some m)) (iV 2) (pT p 0)).run Tryz.prog w=.ok () w'/\aLC w' m p/\Upd m (m+1) w w':=by
 obtain⟨w',e,a,hF⟩:=(map_none he).put 2 p (by omega);refine⟨w',e,⟨?_,a⟩,⟨hF.os,hF.tape,hF.output,hF.size,fun k d f=>hF.block k d (by omega)⟩⟩
 ·obtain⟨D,⟨es,c,b,_⟩,_⟩:=a
  exact⟨es,c,b⟩
