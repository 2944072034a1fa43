package code

// The opcodes that are told apart from others of their kind.
const (
	invokevirtual   = 182
	invokespecial   = 183
	invokeinterface = 185
	newObject       = 187
	anewarray       = 189
	multianewarray  = 197
)

// isArrayOf tells whether a number stands for a kind of elements that newarray
// makes arrays of.
func isArrayOf(kind int) bool {
	switch kind {
	case 4, 5, 8, 9, 10, 11: // boolean, char, byte, short, int, long
		return true
	}
	return false
}

// jumps tells whether an opcode is that of a branch to one place.
func jumps(op int) bool {
	return op >= 153 && op <= 167 || op >= 198 && op <= 200 // ifeq to goto; ifnull to goto_w
}

// localWords tells how many words of locals an instruction reaches from the
// local that it names on: 0 if it names none.
func localWords(op int) int {
	switch op {
	case 21, 25, 54, 58, // iload, aload, istore, astore
		26, 27, 28, 29, 42, 43, 44, 45, // iload_0 to iload_3, aload_0 to aload_3
		59, 60, 61, 62, 75, 76, 77, 78, // istore_0 to istore_3, astore_0 to astore_3
		132: // iinc
		return 1
	case 22, 55, // lload, lstore
		30, 31, 32, 33, 63, 64, 65, 66: // lload_0 to lload_3, lstore_0 to lstore_3
		return 2
	}
	return 0
}
