package codec

// halves is what the polynomial 0xEDB88320 makes of each half byte. The table
// of whole bytes would be more than a package may hold.
var halves = [16]uint32{
	0x00000000, 0x1DB71064, 0x3B6E20C8, 0x26D930AC,
	0x76DC4190, 0x6B6B51F4, 0x4DB26158, 0x5005713C,
	0xEDB88320, 0xF00F9344, 0xD6D6A3E8, 0xCB61B38C,
	0x9B64C2B0, 0x86D3D2D4, 0xA00AE278, 0xBDBDF21C,
}

// Sum is the CRC-32 of b.
func Sum(b []byte) uint32 {
	return ^feed(^uint32(0), b)
}

// frameSum is the sum of a frame: of its size's bytes and of what it carries.
func frameSum(size, b []byte) uint32 {
	return ^feed(feed(^uint32(0), size), b)
}

// feed takes b into a sum that is under way, so that the parts of a frame need
// not be laid together to be summed.
func feed(sum uint32, b []byte) uint32 {
	for _, x := range b {
		sum ^= uint32(x)
		sum = sum>>4 ^ halves[sum&15]
		sum = sum>>4 ^ halves[sum&15]
	}
	return sum
}
