package script_test

import (
	"testing"

	"braid/api"
	"braid/machine"
)

// whole is a script with something in each of its lines.
func whole() machine.Script {
	return machine.Script{
		Objects: []int64{5, -7}, Manager: api.Karma, Patience: 3, Draws: []int64{1, -2},
		Threads: [][]machine.Job{{{Kind: api.JobMove, Key: 4, Other: -4}}, nil}, Picks: []int64{1, 1, 1, 0},
	}
}

// P19.1: however blanks, tabs, comments and empty lines stand, the words say the same.
func TestWordsOfALine(t *testing.T) {
	for _, text := range []string{
		"objects 5 -7\nmanager karma 3\ndraws 1 -2\nthread\nmove 4 -4\nthread\npicks 1*3 0\n",
		"objects 5 -7\nmanager karma 3\ndraws 1 -2\nthread\nmove 4 -4\nthread\npicks 1*3 0", // no last byte 10
		"\tobjects\t5\t-7\t\n\tmanager\tkarma\t3\t\n\tdraws\t1\t-2\n\tthread\t\n\tmove\t4\t-4\n\tthread\n\tpicks\t1*3\t0\t\n",
		"  objects   5  -7  \n manager  karma  3 \n \t draws \t 1 \t -2 \t \n  thread  \n  move  4  -4 \n thread \n picks  1*3  0  ",
		"objects 5 -7 # two\nmanager karma 3 # a # b\ndraws 1 -2# x\nthread #\nmove 4 -4#5\nthread# thread\npicks 1*3 0 # 0 0",
		"# objects\n#\nobjects 5 -7\n\nmanager karma 3\n \t \ndraws 1 -2\n   # draws\nthread\n\n\nmove 4 -4\n#size\nthread\n#\npicks 1*3 0\n\n#\n\n",
		"objects 5 -7#8\nmanager karma 3#\xff\ndraws 1 -2#\x00\r\nthread#x#y\nmove 4 -4#\nthread\npicks 1*3 0#*2",
		"\n\n\nobjects 5 -7\nmanager karma 3\ndraws 1 -2\nthread\nmove 4 -4\nthread\npicks 1*3\npicks 0",
	} {
		says(t, text, whole())
	}
}

// P19.1: a # ends a word, and what stands ahead of it is one.
func TestCommentsWithinWords(t *testing.T) {
	s := plainHead(nil)
	s.Picks = []int64{1, 12}
	says(t, head+"thread\npicks 1 12#3", s)
	faulty(t, "objects 1 -#3\n", 1, api.ErrOperand)
	faulty(t, "objects 1#\n#manager polite 5\ndraws", 3, api.ErrLine)
	faulty(t, "objects\nmanager polite #5\ndraws", 2, api.ErrMissing)
	faulty(t, "objects\nmanager polite 5#6 7\ndraws 1 2x#", 3, api.ErrOperand)
	faulty(t, "obj#ects\n", 1, api.ErrLine)
}

// P19.1: every byte but 32, 9 and 10 is a byte of a word.
func TestBytesOfWords(t *testing.T) {
	for b := range 256 {
		c := string([]byte{byte(b)})
		switch c {
		case " ", "\t", "#":
			says(t, "objects"+c+"\nmanager polite 5\ndraws\nthread\npicks", machine.Script{Patience: 5, Threads: make([][]machine.Job, 1)})
			continue
		case "\n":
			says(t, c+head+c+c+tail+c, plainHead(nil))
			continue
		}
		faulty(t, "objects"+c+"\n", 1, api.ErrLine)
		faulty(t, c+"objects\n", 1, api.ErrLine)
		faulty(t, c+"\n"+head+tail, 1, api.ErrLine)
		faulty(t, head+tail+c, 6, api.ErrLine)
		if b < '0' || b > '9' {
			faulty(t, "objects 1"+c+"\n", 1, api.ErrOperand)
			faulty(t, "objects 1 "+c+"\n", 1, api.ErrOperand)
		}
	}
	for _, text := range []string{"objects\u00a01\n", "objects\u20031\n", "objects\v1\n", "objects\f1\n", "objects\r\n", "objects\u00851"} {
		faulty(t, text, 1, api.ErrLine)
	}
	faulty(t, "objects 1\r\nmanager polite 5\r\n", 1, api.ErrOperand)
	faulty(t, "objects\nmanager polite\r 5\n", 2, api.ErrOperand)
}

// P19.1: lines are counted from 1 on, empty ones too; a text that ends with a byte 10 has an empty last line.
func TestNumbersOfLines(t *testing.T) {
	faulty(t, "", 1, api.ErrLine)
	faulty(t, "\n", 2, api.ErrLine)
	faulty(t, "\n\n\n", 4, api.ErrLine)
	faulty(t, "#", 1, api.ErrLine)
	faulty(t, "# x\n\t\n", 3, api.ErrLine)
	faulty(t, "objects", 1, api.ErrLine)
	faulty(t, "objects\n", 2, api.ErrLine)
	faulty(t, "objects\n\n", 3, api.ErrLine)
	faulty(t, "\n\n# x\n\nobjects x", 5, api.ErrOperand)
	faulty(t, "\n\n# x\n\nobjects 1\n\n\nmanager", 8, api.ErrMissing)
	faulty(t, head+"thread\nprogram\n\n# x\nend\nsize 1\npicks", 9, api.ErrExtra)
	faulty(t, head+"thread\nprogram\n\n# x\nend\n\nprogram\nend\npicks x", 12, api.ErrOperand)
}
