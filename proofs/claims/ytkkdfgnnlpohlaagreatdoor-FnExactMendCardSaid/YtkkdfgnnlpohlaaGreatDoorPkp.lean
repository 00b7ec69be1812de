import Derived.Test.YtkkdfgnnlpohlaaGreatDoorPkn
import Derived.Test.YtkkdfgnnlpohlaaGreatDoorPkm
import Derived.Deep.RegionLaw
namespace Go.Proofs.YtkkdfgnnlpohlaaGreatDoor
set_option maxRecDepth 20000
set_option linter.unusedVariables false
set_option linter.unusedSimpArgs false
set_option maxHeartbeats 4000000
open Go.RowKit Go.Proofs.Tryz
variable {W X Y w w' w0 wr : World} {A B at_ b b2 base' c cap e f g go gs hi i j k lo m n s u val z : Nat} {E G I J K L M N O u0 u1 u2 v0 v1 v2 v3 v4 v5 v6 x y : Value} {o : Oper} {Q : Exit → Act → World → Prop} {cs tmps : Array Value} {t : TypeId} {p : Addr} {l : List Nat} {bvs xs : List Value} {a : List UInt8} {first ok : Bool}
theorem LF(z A x2 x3:Nat)(J:z<256)(K:A<256)(L:x2<256)(M:x3<256):
  bits .or .u32 (bits .or .u32 (bits .or .u32 ((z:Int)*16777216) ((A:Int)*65536)) ((x2:Int)*256)) (x3:Int)=((z*16777216+A*65536+x2*256+x3:Nat):Int):=by
 have E:((z:Int)*16777216)=((z*16777216:Nat):Int):=(by omega);have G:((A:Int)*65536)=((A*65536:Nat):Int):=(by omega);have I:((x2:Int)*256)=((x2*256:Nat):Int):=(by omega);rw[E,G,I,u32_or_nat _ _ (by omega) (by omega),nat_join 24 _ _ (by omega) (by omega),u32_or_nat _ _ (by omega) (by omega),nat_join 16 _ _ (by omega) (by omega),u32_or_nat _ _ (by omega) (by omega),nat_join 8 _ _ (by omega) (by omega)]
theorem JG(z A:Nat)(G:z<256)(I:A<256):bits .or .u16 ((z:Int)*256) (A:Int)=((z*256+A:Nat):Int):=by
 have E:((z:Int)*256)=((z*256:Nat):Int):=(by omega);rw[E,u16_or_nat _ _ (by omega) (by omega),nat_join 8 _ _ (by omega) (by omega)]
theorem By(b z cap A E x2 x3:Nat)(w:World)(I:A<256)(J:E<256)(K:x2<256)(L:x3<256)(G:dW w (some ⟨b,z,none⟩) [A,E,x2,x3]):
  Calls prog 170 #[.slice (some ⟨b,z,none⟩) 4 cap] w fun e w'=>e= .returned (.int .u32 ((A*16777216+E*65536+x2*256+x3:Nat):Int))∧∃n,w'=w.drewN n:=by
 have M:w.cell? ⟨b,z,none⟩=some (.int .u8 (A:Int)):=G.at 0 (by simp);have N:w.cell? ⟨b,z+1,none⟩=some (.int .u8 (E:Int)):=G.at 1 (by simp);have O:w.cell? ⟨b,z+2,none⟩=some (.int .u8 (x2:Int)):=G.at 2 (by simp);have Q:w.cell? ⟨b,z+3,none⟩=some (.int .u8 (x3:Int)):=G.at 3 (by simp);go_enter func170,ntmps170;go_wp2;go_quiet(fail);go_wp2;go_ret;exact⟨sR (LF A E x2 x3 I J K L),_,rfl⟩
theorem Nw{d:LN}(h:6≤d.length):∃x0 x1 x2 x3 x4 x5 t,d=x0::x1::x2::x3::x4::x5::t:=by
 match d,h with
 |x0::x1::x2::x3::x4::x5::t,_=>exact⟨x0,x1,x2,x3,x4,x5,t,rfl⟩
theorem FL{x2 x3 x4 x5:Nat}{t:LN}(N:z<256)(O:A<256)(Q:x2<256)(R:x3<256)(U:x4<256)(V:x5<256)(L:∀x∈t,x<256)(Y:z*256+A≤t.length):
  mt ([z,A]++t.take (z*256+A))=x2*16777216+x3*65536+x4*256+x5↔fN (t.take (z*256+A))=z::A::x2::x3::x4::x5::t.take (z*256+A):=by
 have K:(t.take (z*256+A)).length=z*256+A:=(by simp;omega);have J:hd2 (z*256+A)=[z,A]:=by
  unfold hd2;have E:(z*256+A)/256%256=z:=(by omega);have G:(z*256+A)%256=A:=(by omega);rw[E,G]
 have I:=zW ([z,A]++t.take (z*256+A)) (by
  intro x M;rcases Pj.1 M with h|h
  ·simp at h;omega
  ·exact L x (Pi h))
 unfold fN;rw[K,J];generalize mt ([z,A]++t.take (z*256+A))=c at I⊢;simp only[be4,List.cons_append,PC,List.cons.injEq,true_and,and_true];omega
theorem Di(k n:Nat)(a z:OA)(cap A:Nat)(l m:LN)(w:World)(J:k=l.length)(M:n=m.length)(K:l.length≤1048576)(L:m.length≤1048576)(N:dW w a l)(G:dW w z m)(I:∀x∈l,x<256)(E:∀x∈m,x<256):
  Calls prog 169 #[.slice a k cap,.slice z n A] w fun e w'=>e= .returned (.int .u32 ((mt (l++m):Nat):Int))∧w'=w:=by
 subst J;subst M;exact yi a z cap A l m w K L N G I E
theorem uF{P:Program}{f:FuncId}{args:Array Value}{a x:Nat}{v:Value}(h:Calls P f args (w.drewN (a+x)) fun e w'=>e= .returned v∧w'=w.drewN (a+x)):Calls P f args (w.drewN (a+x)) fun e z=>e= .returned v∧∃n,z=w.drewN (a+n):=
 h.mono fun _ _ ⟨A,E⟩=>⟨A,x,E⟩
theorem uE{P:Program}{f:FuncId}{args:Array Value}{a x:Nat}{v:Value}(h:Calls P f args (w.drewN (a+x)) fun e w'=>e= .returned v∧∃m,w'=(w.drewN (a+x)).drewN m):Calls P f args (w.drewN (a+x)) fun e z=>e= .returned v∧∃n,z=w.drewN (a+n):=
 h.mono fun _ _ ⟨A,m,E⟩=>⟨A,x+m,by rw[E,World.drewN_drewN,Nat.add_assoc]⟩
theorem Hr{F:World→Prop}(h:∀W,W=wr.drewN k→F W):F (wr.drewN k):=h _ rfl
theorem GO(v:Value)(w:World):(callFunc 164 #[v]).run prog w= .ok (.enter 164 #[v]) w:=by
 kernel_rfl
theorem zq{G:Array Oper}{z:Act}{K:Act→World→Prop}{E:Prop}(x:Operand)(ts:Array TypeId)(A:o.guard=none)
  (I:o.op= .call {callee:= .value (.func 164),args:= #[x],argTypes:=ts}) (v:Value) (M:z.eval x=v) (h:Calls prog 164 #[v] w fun e w'=>∃u,e= .returned u∧K (z.put o.dst u) w'):
  if Region.wanted o (yielded G z.tmps)=true then Oper.wp prog o z w K Q else E:=by
 have L:Region.wanted o (yielded G z.tmps)=true:=(by simp[Region.wanted,A]);rw[OS L];obtain⟨R,V,Y,U,N,O⟩:=o;simp only at I A;subst I;unfold Oper.wp;rw[execOp_call_go];simp only[List.map_toArray,Pe,PD,M,List.append_toArray,PC,Pm,GO,Oper.upon_enter];refine h.mono ?_;rintro e w' ⟨u,rfl,J⟩;exact J
theorem KT(n:Nat)(a:OA)(cap:Nat)(l:LN)(E:n=l.length)(w:World)(A:l.length≤1048576)(z:0<l.length)(G:dW w a l):
  Calls prog 164 #[.slice a n cap] w fun e w'=>∃v,e= .returned v∧dR w' w.heap.size v l∧Below w.heap.size w w':=by
 subst E;exact wH a cap l w A z G
theorem Mg{d:LN}{x2 x3 x4 x5:Nat}{t:LN}{rs:List (LN)}(L:d.drop g=z::A::x2::x3::x4::x5::t)(G:(z::A::x2::x3::x4::x5::t).length=d.length-g)(Y:kH d f rs g=dP d)
  (N:z<256) (O:A<256) (Q:x2<256) (R:x3<256) (U:x4<256) (V:x5<256) (Z:∀x∈t,x<256):
  1≤z*256+A→z*256+A≤2000→6+(z*256+A)≤d.length-g→(mt ([z,A]++t.take (z*256+A))=x2*16777216+x3*65536+x4*256+x5→f6 (d.drop g)=some (t.take (z*256+A)))∧(¬mt ([z,A]++t.take (z*256+A))=x2*16777216+x3*65536+x4*256+x5→dP d=(rs,g)):=by
 intro n1 n2 n3;have e:gN (z::A::x2::x3::x4::x5::t)=z*256+A:=rfl;have hi:=FL (x2:=x2) (x3:=x3) (x4:=x4) (x5:=x5) N O Q R U V Z (by simp at G;omega);have E:(z::A::x2::x3::x4::x5::t).drop 6=t:=rfl;have K:(z::A::x2::x3::x4::x5::t).take (6+(z*256+A))=z::A::x2::x3::x4::x5::t.take (z*256+A):=by
  rw[Nat.add_comm 6];rfl
 have I:¬(z::A::x2::x3::x4::x5::t).length<6:=(by simp);have J:¬(gN (z::A::x2::x3::x4::x5::t)<1∨2000<gN (z::A::x2::x3::x4::x5::t)∨(z::A::x2::x3::x4::x5::t).length<6+gN (z::A::x2::x3::x4::x5::t)):=(by rw[e,G];omega);rw[←Y,L];constructor
 ·intro h;have:=rF I J (by rw[e,E,K];exact hi.1 h);rw[e,E] at this;exact this
 ·intro h;refine oc ?_;rw[L];exact tH I J (by rw[e,E,K];exact fun M=>h (hi.2 M))
theorem Ky{z A:World}{v u:Value}{L:List Value}{rs:List (LN)}{r:LN}(I:gC z B x y)(J:gC z (B+1) M N)(R:eO z (B+2) v L rs)(Q:Below B w z)(K:B+2≤z.heap.size)(O:dR A z.heap.size u r)(E:Below z.heap.size z A):
  eO (A.alloc (.cells #[u] e)) (B+2) v L rs∧(A.alloc (.cells #[u] e)).cell? ⟨A.heap.size,0,none⟩=some u∧dR (A.alloc (.cells #[u] e)) (B+2) u r∧
   (∀G,(A.alloc (.cells #[u] e)).grownBy G v.ownBlock→gC G B x y∧gC G (B+1) M N∧Below B w G∧B+2≤G.heap.size)∧B+2≤(A.alloc (.cells #[u] e)).heap.size:=by
 have h:=Fc (w:=w) (e:=e) K E.size (I.below E I.lt) (J.below E J.lt) (R.below E (OV _)) (O.mono K) (Q.trans (E.mono (by omega)));exact⟨h.1,h.2.1,h.2.2.1,h.2.2.2,by have:=E.size;simp;omega⟩
def EC(w w2:World)(B:Nat)(x y v y1 u:Value)(vs:List Value)(rs:List (LN))(R:LN):Prop:=
 ∀Y:World,Y.heap=(w2.alloc (.cells #[u] 52)).heap→Y.os=w2.os→Y.tape=w2.tape→Y.output=w2.output→
  eO Y (B+2) v vs rs∧Y.cell? ⟨w2.heap.size,0,none⟩=some u∧dR Y (B+2) u R∧B+2≤Y.heap.size∧∀w3,Y.grownBy w3 v.ownBlock→gC w3 B x y∧gC w3 (B+1) v y1∧Below B w w3∧B+2≤w3.heap.size
theorem CY{A z:World}{v u:Value}{M:List Value}{rs:List (LN)}{R:LN}(h:EC w A B x y v E u M rs R)(L:Y.grownBy z v.ownBlock)(G:Y.heap=(A.alloc (.cells #[u] 52)).heap:=by rfl)(I:Y.os=A.os:=by rfl)(J:Y.tape=A.tape:=by rfl)(K:Y.output=A.output:=by rfl):gC z B x y∧gC z (B+1) v E∧Below B w z∧B+2≤z.heap.size:=
 (h Y G I J K).2.2.2.2 z L
theorem tO{v:Value}(h:w.ownsRow z e 1 v n xs)(A:w'.heap=w.heap):w'.ownsRow z e 1 v n xs:=mC h fun g _ _=>by rw[A]
theorem Dj{v:Value}{E:List Value}{A:List (LN)}(h:eO w lo v E A)(z:w'.heap=w.heap):eO w' lo v E A:=by
 obtain⟨G,I,J⟩:=h;refine⟨tO G z,fun i hi=> ?_,J⟩;obtain⟨x,L,K⟩:=I i hi;exact⟨x,L,tO K z⟩
theorem Hw{A:World}{v y1:Value}{Z:List Value}{rs:List (LN)}{R:LN}{a:OA}(j0:gC A B x y)(V:gC A (B+1) v y1)(jv:eO A (B+2) v Z rs)(jn:Below B w A)(js:B+2≤A.heap.size)(jr:dW A a R)(n cap:Nat)(U:n=R.length)(h1:R.length≤1048576)(h0:0<R.length):
  ∀W:World,W.heap=A.heap→W.os=A.os→W.tape=A.tape→W.output=A.output→Calls prog 164 #[.slice a n cap] W fun e M=>∃I J,e= .returned (.slice I R.length J)∧(∀z∈Z,z.ownBlock=none∨z.ownBlock≠(Value.slice I R.length J).ownBlock)∧
   EC w M B x y v y1 (.slice I R.length J) Z rs R∧M.cell? ⟨B+1,0,none⟩=some v∧B+1<M.heap.size:=by
 intro W K e2 e3 e4;have aa:dW W a R:=by
  intro hp;obtain⟨b,ab,rfl,hc⟩:=jr hp;refine⟨b,ab,rfl,fun i hi=> ?_⟩;rw[←hc i hi];exact World.cell?_of_block (by rw[K])
 refine(KT n a cap R U W h1 h0 aa).mono ?_;rintro e M ⟨v2,rfl,N,G⟩;obtain⟨I,J,rfl⟩:=N.slice;rw[K] at N;have O:Below A.heap.size A M:=⟨G.os.trans e2,G.tape.trans e3,G.output.trans e4,by rw[←K];exact G.size,fun k Q=>by rw[←K];exact G.block k (by rw[K];exact Q)⟩
 have hs:=O.size;refine⟨I,J,rfl,jv.ne_new N,?_,(V.below O V.lt).c0,by omega⟩;intro Y E ac ad ae;obtain⟨k1,k2,k3,k4,k5⟩:=Ky (e:=52) j0 V jv jn js N O;refine⟨Dj k1 E,by rw[←k2];exact World.cell?_of_block (by rw[E]),tO k3 E,by rw[E];exact k5,fun w3 L=>k4 w3 ⟨L.os.trans ac,L.tape.trans ad,L.output.trans ae,by rw[←E];exact L.size,fun k Q U=>by rw[←E];exact L.block k (by rw[E];exact Q) U⟩⟩
theorem vp(n:Nat)(h:n≤65535):wrap64 (n:Int)=(n:Int):=by
 unfold wrap64;omega
theorem eO.drew{v:Value}{A:List Value}{z:List (LN)}(h:eO w lo v A z)(n:Nat):eO (w.drewN n) lo v A z:=h
theorem Fd{d:LN}{x2 x3 x4 x5:Nat}{t:LN}{rs:List (LN)}(I:d.drop g=z::A::x2::x3::x4::x5::t)(E:(z::A::x2::x3::x4::x5::t).length=d.length-g)(G:kH d f rs g=dP d)
  (h:z*256+A<1∨2000<z*256+A∨d.length-g<6+(z*256+A)):dP d=(rs,g):=by
 rw[←G];refine oc ?_;rw[I];refine rE (by simp) ?_;have e:gN (z::A::x2::x3::x4::x5::t)=z*256+A:=rfl;rw[e,E];exact h
theorem sw(b A cap:Nat)(d:LN)(w:World)(hl:d.length≤40000)(aK:d.length≤cap)(aN:cap≤9223372036854775807)(hr:dW w (some ⟨b,A,none⟩) d)(hb:∀x∈d,x<256):
  Calls prog 140 #[.slice (some ⟨b,A,none⟩) d.length cap] w fun e w'=>∃v,e= .returned v∧zF w' w.heap.size v (dP d)∧Below w.heap.size w w':=by
 have hd:decide ((40000:Int)<(d.length:Int))=false:=(by simp;omega);have HU:Hid (kH d d.length [] 0=dP d):=(by show _=_;unfold dP;rw[OR (by omega)]);go_enter func140,ntmps140;go_wp2
 go_step3
 go_wp2
 go_step3
 go_wp2
 go_loopg [4] d.length (fun f _ wr=>∃rs g vr E,Unf w wr f d rs g vr E)
 case atStart=>
  refine⟨[],0,.slice none 0 0,[],HU,by omega,by omega,by simp,?_,?_,eO.nil _ _,((OX _ _).alloc (OV _) _).alloc (by simp) _,by simp⟩
  ·exact(Below.heap_alloc (w.alloc _) _ _ (by simp)).trans (OP w _)
  ·have h:=OP (w.alloc (.cells #[.slice none 0 0,.int .i64 0] 58)) (.cells #[.slice none 0 0,.int .i64 0] 58);simpa[gC] using h
 case round=>
  obtain⟨rs,g,vr,E,ar,aG,aQ,aT,hB,ac,I,G,ax⟩:=hrel;have HG:=a8 ar;clear ar HU;have c0:=ac.c0;have c1:=ac.c1;have f0:=ac.fz 0;have f1:=ac.fz 1;have V:=hB.c0;have Y:=hB.c1;have q0:=hB.fz 0;have q1:=hB.fz 1;have aR:(g:Int)≤(d.length:Int):=(by omega);have aI:=G.size;obtain⟨J,K,rfl⟩:=I.slice;by_cases h6:d.length-g<6
  ·have z:dP d=(rs,g):=(by rw[←dU HG];exact oc (mg (by simp;omega)));have HU:=a8 z;clear z HG;go_wp2;rw[Exit.noGoto_ret];refine OJ (v:= .agg #[.slice J rs.length K,.int .i64 (g:Int)]) (by simp[results,results140,go_sem,V,Y]) rfl ⟨_,rfl,?_,(G.setCell (OV _) _).setCell (OV _) _⟩;rw[dU HU];exact⟨_,E,rfl,((I.other (by omega) _).other (by omega) _).mono (by omega)⟩
  ·have aP:g+6≤cap:=(by omega);have O:=(hr.below G).drop g;have am:(d.drop g).length=d.length-g:=(by simp);obtain⟨M,N,x2,x3,x4,x5,t,L⟩:=Nw (d:=d.drop g) (by omega);have U:∀x∈d.drop g,x<256:=fun x L=>hb x (Pk L);rw[L] at O U am;have b0:M<256:=U M (by simp);have b1:N<256:=U N (by simp);have b2:x2<256:=U x2 (by simp);have b3:x3<256:=U x3 (by simp);have b4:x4<256:=U x4 (by simp);have b5:x5<256:=U x5 (by simp);have bt:∀x∈t,x<256:=fun x h=>U x (by simp[h]);have e0:wr.cell? ⟨b,A+g,none⟩=some (.int .u8 (M:Int)):=O.at 0 (by simp);have e1:wr.cell? ⟨b,A+g+1,none⟩=some (.int .u8 (N:Int)):=O.at 1 (by simp);have HX:=a8 L;have aj:=a8 am;have aE:=a8 O;clear L am O hr hb U;have aS:(g:Int)+6≤(d.length:Int):=(by omega);by_cases aL:g+6<cap
   ·go_wp2;go_quiet(fail);go_wp2;go_quiet(fail);rw[JG M N b0 b1];have Q:=a8 (Fd (rs:=rs) (f:=gk) (dU HX) (dU aj) (dU HG));generalize hn:M*256+N=n at Q⊢;have HN:=a8 hn;have an:n≤65535:=(by omega);rw[vp n an,show g+6-g=6 from by omega];clear hn e0 e1;by_cases k1:n<1
    ·have z:=a8 (dU Q (.inl k1));go_wp2;rw[Exit.noGoto_ret];refine OJ (v:= .agg #[.slice J rs.length K,.int .i64 (g:Int)]) (by simp[results,results140,go_sem,V,Y]) rfl ⟨_,rfl,?_,((OI G _).setCell (OV _) _).setCell (OV _) _⟩;rw[dU z];exact⟨_,E,rfl,(((I.drew _).other (by omega) _).other (by omega) _).mono (by omega)⟩
    by_cases k2:2000<n
    ·have z:=a8 (dU Q (.inr (.inl k2)));go_wp2;rw[Exit.noGoto_ret];refine OJ (v:= .agg #[.slice J rs.length K,.int .i64 (g:Int)]) (by simp[results,results140,go_sem,V,Y]) rfl ⟨_,rfl,?_,((OI G _).setCell (OV _) _).setCell (OV _) _⟩;rw[dU z];exact⟨_,E,rfl,(((I.drew _).other (by omega) _).other (by omega) _).mono (by omega)⟩
    by_cases k3:d.length-(g+6)<n
    ·have z:=a8 (dU Q (.inr (.inr (by omega))));go_wp2;rw[Exit.noGoto_ret];refine OJ (v:= .agg #[.slice J rs.length K,.int .i64 (g:Int)]) (by simp[results,results140,go_sem,V,Y]) rfl ⟨_,rfl,?_,((OI G _).setCell (OV _) _).setCell (OV _) _⟩;rw[dU z];exact⟨_,E,rfl,(((I.drew _).other (by omega) _).other (by omega) _).mono (by omega)⟩
    ·have O:=dU aE;have hA:dW wr (some ⟨b,A+g,none⟩) [M,N]:=O.take 2;have af:dW wr (some ⟨b,A+(g+6),none⟩) (t.take n):=(by have:=(O.drop 6).take n;rw[Nat.add_assoc] at this;exact this);have hC:dW wr (some ⟨b,A+g+2,none⟩) [x2,x3,x4,x5]:=(O.drop 2).take 4;have ay:n=(t.take n).length:=(by have:=dU aj;simp at this;simp;omega);have ae:=a8 ay;clear ay O;have z1:(2:Int)≤((cap-g:Nat):Int):=(by omega);have z2:(n:Int)≤((cap-(g+6):Nat):Int):=(by omega);have z3:2<cap-g:=(by omega);have z4:(6:Int)≤((cap-g:Nat):Int):=(by omega);have ah:∀W:World,(∀a l,dW wr a l→dW W a l)→Calls prog 169 #[.slice (some ⟨b,A+g,none⟩) 2 (cap-g),.slice (some ⟨b,A+(g+6),none⟩) n (cap-(g+6))] W fun e w'=>e= .returned (.int .u32 ((mt ([M,N]++t.take n):Nat):Int))∧w'=W:=
      fun W hW=>Di 2 n _ _ _ _ [M,N] (t.take n) W rfl (dU ae) (by simp) (by have:=dU ae;omega) (hW _ _ hA) (hW _ _ af) (by intro x L;simp at L;omega) (fun x L=>bt x (Pi L))
     have ai:∀W:World,(∀a l,dW wr a l→dW W a l)→Calls prog 170 #[.slice (some ⟨b,A+g+2,none⟩) 4 (cap-g-2)] W fun e w'=>e= .returned (.int .u32 ((x2*16777216+x3*65536+x4*256+x5:Nat):Int))∧∃m,w'=W.drewN m:=
      fun W hW=>By b (A+g+2) (cap-g-2) x2 x3 x4 x5 W b2 b3 b4 b5 (hW _ _ hC)
     have ab:=a8 (Mg (f:=gk) (rs:=rs) (dU HX) (dU aj) (dU HG) b0 b1 b2 b3 b4 b5 bt);rw[dU HN] at ab;have bR:∀x∈t.take n,x<256:=fun x L=>bt x (Pi L);generalize mt ([M,N]++t.take n)=c at ah ab;generalize t.take n=R at af ae ab bR;generalize x2*16777216+x3*65536+x4*256+x5=s4 at ai ab;by_cases ad:c=s4
     ·have aJ:((c:Int) !=(s4:Int))=false:=(by rw[ad];simp);have aq:f6 (d.drop g)=some R:=(dU ab (by omega) (by omega) (by omega)).1 ad;obtain⟨f',ap,al,ao⟩:=Cm (rs:=rs) aG aq;rw[dU HG] at al;have aC:=a8 al;have HF:=a8 ap;have aB:=a8 ao;clear al ap ao aq HG ad;go_wp2;go_quiet((first|(go_at_call 169;exact uF (ah _ (fun a l h=>h.drew _)))|(go_at_call 170;exact uE (ai _ (fun a l h=>h.drew _)))));clear ah ai hA hC;go_wp2;refine Hr (F:=fun W=>Code.wp _ _ _ _ W) ?_;intro W0 aa;have j0:gC W0 w.heap.size (.slice none 0 0) (.int .i64 0):=(by rw[aa];exact hB);have j1:gC W0 (w.heap.size+1) (.slice J rs.length K) (.int .i64 (g:Int)):=(by rw[aa];exact ac);have jv:eO W0 (w.heap.size+2) (.slice J rs.length K) E rs:=(by rw[aa];exact I);have jr:dW W0 (some ⟨b,A+(g+6),none⟩) R:=(by rw[aa];exact af);have jn:Below w.heap.size w W0:=(by rw[aa];exact OI (OI G _) _);have js:w.heap.size+2≤W0.heap.size:=(by rw[aa];exact ax);clear aa hB ac I af G ax aI c0 c1 f0 f1 V Y q0 q1;have d0:=j1.c0;have aA:rs.length≤1048576:=(by omega);have ak:Hid (R.length=n):=(dU ae).symm;have aM:n≤2000:=(by omega);have aF:=Hw j0 j1 jv jn js jr n (cap-(g+6)) (dU ae) (by have:=dU ak;omega) (by have:=dU ak;omega);clear j0 j1 jv jn js jr;go_region_law (first
        |(refine zq (.tmp 64) #[52] (by rfl) (by rfl) (.slice (some ⟨b,A+(g+6),none⟩) n (cap-(g+6))) (by rfl) ?_;refine(aF _ ?_ ?_ ?_ ?_).mono ?_;(exact rfl);(exact rfl);(exact rfl);(exact rfl);rintro e w2 ⟨a2,c2,rfl,au,ha,p1,l2⟩;have aD:=a8 au;have HA:=a8 ha;clear au ha;refine⟨_,rfl,?_⟩)
        |(refine sF _ (by rfl) (.tmp 61) (.tmp 66) (by rfl) (w.heap.size+2) (.slice J rs.length K) E rs (.slice a2 R.length c2) R w2.heap.size 1 (by rfl) (by rfl) ?_ ?_ ?_ ?_ ?_ ?_ ?_;(refine(dU HA _ ?_ ?_ ?_ ?_).1<;>rfl);(refine(dU HA _ ?_ ?_ ?_ ?_).2.1<;>rfl);(refine(dU HA _ ?_ ?_ ?_ ?_).2.2.1<;>rfl);(exact dU aD);(exact aA);(refine(dU HA _ ?_ ?_ ?_ ?_).2.2.2.1<;>rfl);intro v3 w3 aw aH;have Z:=CY (dU HA) aH;obtain⟨a3,c3,rfl⟩:=aw.slice;have p3:=Z.2.1.c0;have f3:=Z.2.1.fz 0;have p4:=Z.2.1.c1;have f4:=Z.2.1.fz 1))
      all_goals
       have ag:=Cl (u:= .int .i64 ((g:Int)+(6+(n:Int)))) Z.1 Z.2.1 aw Z.2.2.1 Z.2.2.2;go_wp2
       go_roundg f'
       case measure=>have:=dU HF;omega
       case rel=>
        refine⟨rs++[R],g+(6+R.length),.slice a3 (rs++[R]).length c3,E++[.slice a2 R.length c2],(dU aC).symm,by have:=dU aB;omega,by have:=dU ak;omega,by simp;omega,?_,?_,?_,?_,?_⟩
        ·simpa using ag.1
        ·rw[dU ak];simpa using ag.2.1
        ·simpa using ag.2.2.1
        ·simpa using ag.2.2.2.1
        ·simpa using ag.2.2.2.2
     ·have z:=a8 ((dU ab (by omega) (by omega) (by omega)).2 ad);have aJ:((c:Int) !=(s4:Int))=true:=(by simp;omega);clear ad;go_wp2;go_quiet((first|(go_at_call 169;exact uF (ah _ (fun a l h=>h.drew _)))|(go_at_call 170;exact uE (ai _ (fun a l h=>h.drew _)))));clear ah ai hA hC af;go_wp2;rw[Exit.noGoto_ret];refine OJ (v:= .agg #[.slice J rs.length K,.int .i64 (g:Int)]) (by simp[results,results140,go_sem,V,Y]) rfl ⟨_,rfl,?_,((OI G _).setCell (OV _) _).setCell (OV _) _⟩;rw[dU z];exact⟨_,E,rfl,(((I.drew _).other (by omega) _).other (by omega) _).mono (by omega)⟩
   ·have az:g+6=cap:=(by omega);have aO:d.length-(g+6)=0:=(by omega);obtain rfl:=az;go_wp2;go_quiet(fail);go_wp2;go_quiet(fail);rw[JG M N b0 b1];have Q:=a8 (Fd (rs:=rs) (f:=gk) (dU HX) (dU aj) (dU HG));generalize hn:M*256+N=n at Q⊢;have an:n≤65535:=(by omega);rw[vp n an,show g+6-g=6 from by omega];clear hn e0 e1;by_cases k1:n<1
    ·have z:=a8 (dU Q (.inl k1));go_wp2;rw[Exit.noGoto_ret];refine OJ (v:= .agg #[.slice J rs.length K,.int .i64 (g:Int)]) (by simp[results,results140,go_sem,V,Y]) rfl ⟨_,rfl,?_,((OI G _).setCell (OV _) _).setCell (OV _) _⟩;rw[dU z];exact⟨_,E,rfl,(((I.drew _).other (by omega) _).other (by omega) _).mono (by omega)⟩
    by_cases k2:2000<n
    ·have z:=a8 (dU Q (.inr (.inl k2)));go_wp2;rw[Exit.noGoto_ret];refine OJ (v:= .agg #[.slice J rs.length K,.int .i64 (g:Int)]) (by simp[results,results140,go_sem,V,Y]) rfl ⟨_,rfl,?_,((OI G _).setCell (OV _) _).setCell (OV _) _⟩;rw[dU z];exact⟨_,E,rfl,(((I.drew _).other (by omega) _).other (by omega) _).mono (by omega)⟩
    ·have z:=a8 (dU Q (.inr (.inr (by omega))));have k3:(0:Int)<(n:Int):=(by omega);go_wp2;rw[Exit.noGoto_ret];refine OJ (v:= .agg #[.slice J rs.length K,.int .i64 (g:Int)]) (by simp[results,results140,go_sem,V,Y]) rfl ⟨_,rfl,?_,((OI G _).setCell (OV _) _).setCell (OV _) _⟩;rw[dU z];exact⟨_,E,rfl,(((I.drew _).other (by omega) _).other (by omega) _).mono (by omega)⟩
theorem qS(b A cap:Nat)(d:LN)(w:World)(E:40000<d.length):
  Calls prog 140 #[.slice (some ⟨b,A,none⟩) d.length cap] w fun e w'=>∃v,e= .returned v∧zF w' w.heap.size v (dP d)∧Below w.heap.size w w':=by
 have z:dP d=([],0):=(by unfold dP;rw[OS E]);rw[z];clear z;go_enter func140,ntmps140;go_wp2
 go_step3
 go_wp2;rw[Exit.noGoto_ret];exact OJ (v:= .agg #[.slice none 0 0,.int .i64 0]) (by simp[results,results140,go_sem]) rfl ⟨_,rfl,⟨_,[],rfl,eO.nil _ _⟩,((OX _ _).alloc (OV _) _).alloc (by simp) _⟩
end Go.Proofs.YtkkdfgnnlpohlaaGreatDoor
