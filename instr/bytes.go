package instr

// Numbers at the beginning of bytes, the highest byte first: u without a sign,
// s with one, and how many bytes they take.

func u1(b []byte) int { return int(b[0]) }

func u2(b []byte) int { return int(b[0])<<8 | int(b[1]) }

func s1(b []byte) int { return int(int8(b[0])) }

func s2(b []byte) int { return int(int16(u2(b))) }

func s4(b []byte) int { return int(int32(u2(b)<<16 | u2(b[2:]))) }
