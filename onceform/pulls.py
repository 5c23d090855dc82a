"""Forms that pull together, and products that show that no worth of a form is less than a number."""

from onceform.bits import doubled, listed, lowest
from onceform.errors import NoPull
from onceform.forms import made, unknowns
from onceform.least import floor


def pulled(form):
    """The tuple of the least worth, a GIVEN that has it, and products that come with it to the form's worths."""
    if not pulls(form):
        raise NoPull("a SET has more than two unknowns, or a SET of two has a NUMBER above 0")
    bits = [doubled(k) for k in listed(unknowns(form))]
    singles = without_pairs(form)
    number = floor(singles)
    products = first_products(form, singles)
    way = open_way(products, bits)
    while way:
        amount = min([products[step] for step in way])
        push(products, way, amount)
        number = number + amount
        way = open_way(products, bits)
    # With the bit 1 for what is reached and 0 for all others, each product that is left is worth 0.
    given = sum(list(reached(products, bits)))
    return (number, given, [(products[step], step[0], step[1]) for step in sorted(products) if products[step] > 0])


def pulls(form):
    """Whether the form pulls together."""
    for members, number in form:
        many = len(listed(members))
        if many > 2 or (many == 2 and number > 0):
            return False
    return True


def without_pairs(form):
    """The form in which each pair is its lower unknown alone."""
    return made([(lowest(members), number) for members, number in form])


def first_products(form, singles):
    """The NUMBERs, by SET and TURNED, of products that come with the floor of the singles to the form's worths."""
    products = {}
    for members, number in form:
        low = lowest(members)
        # A pair is its lower unknown, less that unknown where the other one has the bit 0.
        if members != low:
            products[(low, members - low)] = -number
    for bit, number in singles:
        if bit != 0 and number > 0:
            products[(bit, 0)] = number
        if bit != 0 and number < 0:
            products[(0, bit)] = -number
    return products


def reached(products, bits):
    """The unknowns, by their bits, that products lead to from TURNED alone, each with the one ahead of it or 0."""
    ahead = {}
    row = [0]
    while row:
        after = []
        for bit in row:
            for other in bits:
                if other not in ahead and products.get((bit, other), 0) > 0:
                    ahead[other] = bit
                    after.append(other)
        row = after
    return ahead


def open_way(products, bits):
    """A shortest row of products from TURNED alone to SET alone, each one's TURNED the SET of the one behind it."""
    ahead = reached(products, bits)
    for bit in ahead:
        if products.get((bit, 0), 0) > 0:
            return way_to(bit, ahead)
    return []


def way_to(bit, ahead):
    """The row of products that leads to an unknown, told by its bit, and ends there, the last one first."""
    way = [(bit, 0)]
    while bit != 0:
        way.append((ahead[bit], bit))
        bit = ahead[bit]
    return way


def push(products, way, amount):
    """Takes the amount out of each product on the way, and puts it to the same ones with SET and TURNED changed."""
    # For unknowns x, y, .., z: (1 - x) + x(1 - y) + .. + z is always 1 + y(1 - x) + .. , so the amount has come
    # out as a number alone, and the worths of all together stay as they are.
    for members, turned in way:
        products[(members, turned)] = products[(members, turned)] - amount
        if members != 0 and turned != 0:
            products[(turned, members)] = products.get((turned, members), 0) + amount


def products_show(form, number, products):
    """Whether the products show that no worth of the form is less than the number."""
    if not all([is_product(product) for product in products]):
        return False
    told = [(0, number)]
    for product in products:
        told.extend(opened(product))
    return made(told) == form


def is_product(product):
    """Whether a tuple (NUMBER, SET, TURNED) is a product whose worths are 0 or more."""
    return min(product) >= 0 and (product[1] & product[2]) == 0


def opened(product):
    """The tuples (SET, NUMBER) whose worths come to the product's."""
    told = [(product[1], product[0])]
    turned = product[2]
    while turned != 0:
        bit = lowest(turned)
        # An unknown with the bit 0 counts as 1 less the unknown.
        told = told + [(members | bit, -number) for members, number in told]
        turned = turned - bit
    return told
