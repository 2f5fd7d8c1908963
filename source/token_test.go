package source_test

import (
	"math"
	"strings"
	"testing"

	"braid/api"
	"braid/source"
)

func TestHowLong(t *testing.T) {
	filled := func(text string, with string, size int) string {
		return text + strings.Repeat(with, size-len(text))
	}
	for _, with := range []string{" ", "\t", "\n"} {
		says(t, filled("", with, 32768))
		refused(t, filled("", with, 32769), api.ErrSource)
		says(t, filled("abort;", with, 32768), aborts())
		refused(t, filled("abort;", with, 32769), api.ErrSource)
	}
	says(t, filled("abort;#", "?", 32768), aborts())
	refused(t, filled("abort;#", "?", 32769), api.ErrSource)
	says(t, strings.Repeat("#\n", 32768/2))
	// a text that is too long has no other fault
	for _, text := range []string{"?", "abort", "x := 1;", "x := ;", strings.Repeat("abort;", 600), strings.Repeat("(", 32769), strings.Repeat("x", 32769)} {
		refused(t, filled(text, " ", max(32769, len(text))), api.ErrSource)
		refused(t, filled(text, " ", 1<<20), api.ErrSource)
	}
	// one that is just not too long has its faults, at its end too
	faulty(t, filled("?", " ", 32768), 1, 1)
	faulty(t, filled("abort", " ", 32768), 1, 32769)
	faulty(t, filled("abort", " ", 32767)+"\n", 2, 1)
	faulty(t, filled("abort", "\n", 32768), 32768-5+1, 1)
	faulty(t, filled("", " ", 32767)+"?", 1, 32768)
	faulty(t, filled("", "\n", 32767)+"?", 32768, 1)
	refused(t, filled(strings.Repeat("abort;", 513), " ", 32768), api.ErrBig)
}

// The longest texts of one kind: deep ones, and ones of very many tokens.
func TestLongTexts(t *testing.T) {
	const most = 32768
	for _, c := range []struct{ ahead, again, behind string }{
		{"return ", "(", ""}, {"return ", "-", ""}, {"return ", "[", ""}, {"return ", "min(", ""}, {"return ", "take[", ""},
		{"", "if 1{", ""}, {"", "while 1{}", "?"}, {"", "if 1{}else ", ""}, {"return 1", "+1", ""}, {"return 1", "||1", ""},
	} {
		n := (most - len(c.ahead) - len(c.behind)) / len(c.again)
		text := c.ahead + strings.Repeat(c.again, n)
		faulty(t, text+c.behind, 1, len(text)+1)
	}
	half := most/2 - 10
	means(t, strings.Repeat("(", half)+"1"+strings.Repeat(")", half), num(1))
	marked(t, "return "+strings.Repeat("(", half)+"1"+strings.Repeat(")", half)+"~);")
	marked(t, "return "+strings.Repeat("(", half)+"1"+strings.Repeat(")", half-1)+"~;")
	refused(t, "return "+strings.Repeat("-", most-9)+"1;", api.ErrDeep)
	refused(t, "return 1"+strings.Repeat("+1", half)+";", api.ErrDeep)
	refused(t, strings.Repeat("x:=1;", most/5), api.ErrBig)
	refused(t, strings.Repeat("while 1{", most/9)+strings.Repeat("}", most/9), api.ErrDeep)
	says(t, strings.Repeat("#?\n", most/3))
	marked(t, "~"+strings.Repeat("a", most))
	marked(t, "return ~"+strings.Repeat("9", most-7))
	marked(t, "return ~"+strings.Repeat("0", most-7))
}

// gaps say nothing.
var gaps = []string{" ", "\t", "\n", "  ", "\t\t", "\n\n", " \t\n", "#\n", "# x\n", "#x := 1;\n", "# # ?\n", "#\r\n", "#ä\xff\n", " #\n ", "#\n#\n", "\n#\t\n\t"}

func TestGaps(t *testing.T) {
	tokens := strings.Fields("if take [ x1 ] <= - 12 && min ( 1 , 2 ) { [ 0 ] := ! y ; } else { release [ 3 ] ; while 1 { abort ; } return ( 4 ) ; }")
	want := reads(t, strings.Join(tokens, " "))
	for _, gap := range gaps {
		says(t, strings.Join(tokens, gap), want...)
		says(t, gap+strings.Join(tokens, gap)+gap, want...)
	}
	// none at all where two tokens stay two
	says(t, "if take[x1]<=-12&&min(1,2){[0]:=!y;}else{release[3];while 1{abort;}return(4);}", want...)
}

func TestGapsAlone(t *testing.T) {
	for _, gap := range gaps {
		says(t, gap)
		says(t, "abort;"+gap, aborts())
		says(t, gap+"abort;", aborts())
	}
	// a comment at the text's end, with and without a newline
	for _, end := range []string{"#", "# x", "#x := 1;", "# ~ ?\xff\r", "#\n", "##\n"} {
		says(t, end)
		says(t, "abort;"+end, aborts())
		says(t, "abort"+end[:1]+"\n;"+end, aborts())
	}
	marked(t, "abort#;\n~")
	marked(t, "abort#;~")
	marked(t, "abort # ;\n#~")
	marked(t, "x := 1 # + 2;\n\n#\n~?")
	// no other byte is a gap
	for b := range 256 {
		if !strings.ContainsRune(" \t\n#;", rune(b)) {
			marked(t, "abort ~"+string([]byte{byte(b)})+"\x01")
		}
	}
}

func TestWords(t *testing.T) {
	for _, w := range []string{"a", "z", "a0", "z9", "x1y2", "abcdefghijklmnop", "a000000000000000", "ifx", "if1", "returns", "minimum", "min1", "takes", "r1", "i", "maxi"} {
		says(t, w+":="+w+";", assign(w, name(w)))
	}
	for _, w := range []string{"abcdefghijklmnopq", "a0000000000000000", strings.Repeat("if", 9), "abort0123456789ab", "returnreturnreturn", strings.Repeat("z", 1000)} {
		marked(t, "~"+w+" := 1;")
		marked(t, "x := ~"+w+";")
		marked(t, "x := 1 ~"+w+";")
		marked(t, "x ~"+w+";")
	}
	// a capital, and any other byte, ends a word and is no token
	marked(t, "~A := 1;")
	marked(t, "a~B := 1;")
	marked(t, "a~_b := 1;")
	marked(t, "abor~T;")
	marked(t, "x := a~.b;")
	marked(t, "x := ~ä;")
	marked(t, "x := a~ä;")
	// kept words are whole words
	marked(t, "abortx~;")
	marked(t, "returnx~;")
	marked(t, "return xy ~z;")
	says(t, "return1:=2;", assign("return1", num(2)))
	marked(t, "ifa ~{ }")
	says(t, "takex := 1;", assign("takex", num(1)))
}

func TestKeptWordsAreNoNames(t *testing.T) {
	for _, w := range strings.Fields(keptWords) {
		if w != "take" && w != "min" && w != "max" {
			marked(t, "x := ~"+w+";")
			marked(t, "x := 1 + ~"+w+" + 1;")
		}
		marked(t, "x ~"+w+" := 1;")
		marked(t, "x := y ~"+w+";")
		says(t, w+"x := "+w+"1;", assign(w+"x", name(w+"1")))
	}
	for _, w := range strings.Fields("take min max else") {
		marked(t, "~"+w+" := 1;")
	}
	for _, w := range strings.Fields("release abort return if while") {
		marked(t, w+" ~:= 1;")
	}
}

func TestNumbersOfTexts(t *testing.T) {
	for text, n := range map[string]int64{
		"0": 0, "1": 1, "9": 9, "10": 10, "100": 100, "1234567890": 1234567890,
		"9223372036854775806": math.MaxInt64 - 1, "9223372036854775807": math.MaxInt64, "999999999999999999": 999999999999999999,
	} {
		means(t, text, num(n))
		means(t, "-"+text, one(source.Minus, num(n)))
		means(t, text+"-"+text, two(num(n), "-", num(n)))
	}
	for _, text := range []string{"00", "01", "007", "09223372036854775807", "9223372036854775808", "9223372036854775809", "9999999999999999999", "18446744073709551616", "10000000000000000000", strings.Repeat("1", 100)} {
		marked(t, "return ~"+text+";")
		marked(t, "return -~"+text+";")
		marked(t, "return 1 ~"+text+";")
		marked(t, "~"+text)
	}
	// what ends the digits begins the next token
	marked(t, "return 12~ab;")
	marked(t, "return 0~x1;")
	marked(t, "return 1~.5;")
	marked(t, "return 1~_0;")
	marked(t, "return 0 ~0;")
	marked(t, "return 1 ~2;")
	marked(t, "return 12~if;")
	says(t, "if 1{}if 2{}", source.Stmt{Kind: source.If, A: num(1)}, source.Stmt{Kind: source.If, A: num(2)})
}

// Of two signs that fit, the longer one is the token.
func TestSigns(t *testing.T) {
	means(t, "a<<b", two(name("a"), "<<", name("b")))
	means(t, "a>>b", two(name("a"), ">>", name("b")))
	means(t, "a<=b", two(name("a"), "<=", name("b")))
	means(t, "a!=b", two(name("a"), "!=", name("b")))
	means(t, "a&&b", two(name("a"), "&&", name("b")))
	means(t, "a||b", two(name("a"), "||", name("b")))
	means(t, "a==b", two(name("a"), "==", name("b")))
	means(t, "a&b", two(name("a"), "&", name("b")))
	means(t, "a|b", two(name("a"), "|", name("b")))
	means(t, "a<-b", two(name("a"), "<", one(source.Minus, name("b"))))
	means(t, "a<!b", two(name("a"), "<", one(source.Not, name("b"))))
	means(t, "a&&!b", two(name("a"), "&&", one(source.Not, name("b"))))
	for _, text := range []string{
		"return a~=b;", "return a==~=b;", "return a!=~=b;", "return a<=~=b;", "return a<<~=b;", "return a<<~<b;", "return a>>~>b;", "return a<=~>b;",
		"return a<~>b;", "return a&&~&b;", "return a||~|b;", "return a |~& b;", "return a ~:b;", "return a~:=b;", "return ~!=b;", "return a~!b;",
		"return a ~! = b;", "return a < ~< b;", "return a > ~= b;", "return a & ~& b;", "return a | ~| b;", "a ~: = 1;", "a ~= 1;", "a ~== 1;", "a ~::= 1;", "a :=~= 1;", "~= 1;", "~: 1;",
	} {
		marked(t, text)
	}
}

// Every byte at every kind of place.
func TestEveryByte(t *testing.T) {
	for b := range 256 {
		c := string([]byte{byte(b)})
		for _, text := range []string{
			c, c + c, c + "abort;", "abort;" + c, "abor" + c, "abort" + c, "abort" + c + ";", "a" + c + ":= 1;", "a :" + c + " 1;", "a " + c + "= 1;", "a :=" + c + "1;", "a := 1" + c + ";",
			"a := 1" + c + "2;", "a := 1 " + c + " 2;", "a := b" + c + "c;", "a := b " + c + "= c;", "a := b <" + c + " c;", "a := b" + c + c + "c;", "a := " + c + "b;", "a := (" + c + ");", "a := (b" + c + ";",
			"a := [" + c + "];", "a := [1" + c + ";", "a := 0" + c + ";", "a := min(1" + c + "2);", "a := min" + c + "1, 2);", "[1" + c + " := 1;", "if 1 " + c + " }", "if 1 { " + c, "if 1 { }" + c + "else { }",
			"abort;" + c + "abort", "abort;\n" + c + "\n?", "#" + c + "\n?", "# x" + c + "?\n?", "abort # " + c + ";", "abcdefghijklmno" + c + " := 1;", "abcdefghijklmnop" + c + " := 1;", "a := 922337203685477580" + c + ";",
		} {
			sameText(t, text)
		}
	}
}
